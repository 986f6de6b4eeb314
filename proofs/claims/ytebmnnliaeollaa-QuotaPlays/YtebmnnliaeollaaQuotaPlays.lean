/- For any root and any calls: behind each of any 100 calls the containers are just those that the document says, the answers alike; a root that may not be is refused; no condition. -/
import Derived.Test.YtebmnnliaeollaaRows
import Derived.ProofKit
import Derived.OpenShut
import Derived.Carry
import Derived.Test.YtebmnnliaeollaaQ19
namespace Go.Proofs.Ytebmnnliaeollaa.quotaPlays
open Go.ChangeShapes Go.WideShapes Go.ChangeAt Go.RowKit Go.Maps
set_option linter.unusedSimpArgs false
set_option linter.unusedVariables false
theorem root_live (q : Int) : ∀ n, liveL (rootT q) (n + 1) = [0]
  | 0 => by rw [live_yes _ 0 (by unfold rootT; rw [put_same])]; rfl
  | n + 1 => by rw [live_no _ (n + 1) (by unfold rootT; rw [put_other _ _ _ _ (by omega)]; rfl)]; exact root_live q n
theorem root_box (q : Int) : boxN (rootT q) 64 = [⟨0, -1, q, 0⟩] := by
  unfold boxN; rw [root_live q 63]; show [bx (rootT q) 0] = _; unfold bx rootT; rw [put_same]; rfl
theorem root_row (u : World) (q : Int) (base : Nat) (hb : base ≤ u.heap.size) : IsBox (u.alloc (.cells #[.int .i64 0, .int .i64 (-1), .int .i64 q, .int .i64 0] 29)) base (some ⟨u.heap.size, 0, none⟩) (boxN (rootT q) 64) := by
  rw [root_box]
  intro i hi
  have : i = 0 := by simpa using hi
  subst this
  refine ⟨u.heap.size, rfl, hb, by rw [World.size_alloc]; omega, fun j x hx => ?_⟩
  have e : ([(⟨0, -1, q, 0⟩ : Bx)].getD 0 Bx.zero) = ⟨0, -1, q, 0⟩ := rfl
  rw [e] at hx
  rw [Go.Joins.cell_of_block (own1 u _), show 0 * 4 + j = j by omega]
  simpa [Bx.enc] using hx
theorem lent_says {T : Nat → Nd} {root : Int} (g : Good T root) (k : Nat) (hk : k < 64) : lentB k (boxN T 64) = (T k).lent := by
  rw [lent_box T k 64]
  have := g.lent k hk
  unfold lentOf at this
  omega

set_option maxRecDepth 8000 in
set_option maxHeartbeats 4000000 in
theorem walk (a0 : Int) (w0 : (Lit.int .i64 a0).wf = true) (p1 : Option Addr) (n1 c1 : Nat) (K1 I1 N1 : Nat → Int) (m1 : n1 ≤ maxLen) (w : World) (H1 : IsActs w p1 n1 K1 I1 N1) :
    Calls Try.prog 3 #[.int .i64 a0, .slice p1 n1 c1] w fun e w' => e = .returned (.bool true) ∧ Below w.heap.size w w' := by
  have AW : Hid (∀ W : World, Calls Try.prog 5 #[] W fun e w' => e = .returned (.bool true) ∧ Below W.heap.size W w') := fun W => awake_any W
  by_cases kb : a0 < 0 ∨ 1048576 < a0
  · have NW : Hid (∀ W : World, Calls Try.prog 4 #[.int .i64 a0] W fun e w' => e = .returned (.tuple #[.pointer none, .int .i64 1]) ∧ Below W.heap.size W w') := fun W => new_bad a0 kb W
    have kd1 : decide (a0 < 0) = true ∨ (decide (a0 < 0) = false ∧ decide (1048576 < a0) = true) := by simp; omega
    rcases kd1 with kd | ⟨kd, kd2⟩
    all_goals
      go_enter Try.func3, Try.ntmps3
      go_wp2_with fail
      refine (NW.out _).mono ?_
      rintro e u0 ⟨rfl, hb0⟩
      have B0 : Hid (Below w.heap.size w u0) := hb0
      clear hb0
      go_wp2_with fail
      refine (AW.out _).mono ?_
      rintro e u1 ⟨rfl, hb1⟩
      have B1 : Hid (Below w.heap.size w u1) := below_then B0.out hb1
      clear hb1
      go_wp2_with fail
      go_ret
      exact ⟨rfl, B1.out⟩
  have kd1 : decide (a0 < 0) = false := by simp; omega
  have kd2 : decide (1048576 < a0) = false := by simp; omega
  have NW : Hid (∀ W : World, Calls Try.prog 4 #[.int .i64 a0] W fun e w' => e = .returned (.tuple #[.pointer (some ⟨W.heap.size, 0, none⟩), .int .i64 0]) ∧ Own W w' W.heap.size (rootT a0)) := fun W => new_ok a0 (by omega) (by omega) W
  have GR : Hid (Good (rootT a0) a0) := root_good a0 (by omega) (by omega)
  have RL : Hid ((liveL (rootT a0) 64).length = 1) := by show _ = _; rw [root_live a0 63]; rfl
  have HA : Hid (IsActs w p1 n1 K1 I1 N1) := H1
  have DO : Hid (∀ (T : Nat → Nd), Good T a0 → ∀ (p : Option Addr) (c : Nat) (k i n : Int) (W : World), IsTree W w.heap.size T → IsBox W (w.heap.size + 1) p (boxN T 64) → Calls Try.prog 6 #[.pointer (some ⟨w.heap.size, 0, none⟩), .slice p (liveL T 64).length c, .agg #[.int .i64 k, .int .i64 i, .int .i64 n]] W fun e w' => ∃ p' c', e = .returned (.tuple #[.slice p' (liveL (doesT T k i n) 64).length c', .bool true]) ∧ Both W w' w.heap.size (w.heap.size + 1) (doesT T k i n) p') := fun T g p c k i n W h hx => by
    have := doesB w.heap.size g (w.heap.size + 1) (by omega) p c k i n W (by have := h.2.2; omega) h hx
    rw [box_len, box_len] at this; exact this
  have LVC : Hid (∀ (T : Nat → Nd) (W : World), IsTree W w.heap.size T → Calls Try.prog 7 #[.pointer (some ⟨w.heap.size, 0, none⟩)] W fun e w' => (∃ p c, e = .returned (.slice p (liveL T 64).length c) ∧ IsRow w' (w.heap.size + 1) p (liveL T 64)) ∧ Below W.heap.size W w') := fun T W h => (live_call w.heap.size T W h).mono fun e w' ⟨⟨p, c, h1, h2⟩, h3⟩ => ⟨⟨p, c, h1, h2.weak (by have := h.2.2; omega)⟩, h3⟩
  have GTC : Hid (∀ (T : Nat → Nd) (kk : Nat), kk < 64 → ∀ W : World, IsTree W w.heap.size T → Calls Try.prog 10 #[.pointer (some ⟨w.heap.size, 0, none⟩), .int .i64 kk] W fun e w' => e = .returned (.tuple #[.agg #[.int .i64 (T kk).par, .int .i64 (T kk).quota, .int .i64 (T kk).used, .int .i64 (T kk).lent, .bool (T kk).live], .bool (T kk).live]) ∧ Below W.heap.size W w') := fun T kk hk W h => by
    have := get_any w.heap.size T kk W h
    rw [get_nat T kk hk] at this; exact this
  have GTO : Hid (∀ W : World, Calls Try.prog 10 #[.pointer (some ⟨w.heap.size, 0, none⟩), .int .i64 (-1)] W fun e w' => e = .returned (.tuple #[.agg #[.int .i64 0, .int .i64 0, .int .i64 0, .int .i64 0, .bool false], .bool false]) ∧ Below W.heap.size W w') := fun W => get_out w.heap.size (-1) (by omega) W
  have RMC : Hid (∀ (T : Nat → Nd), Good T a0 → ∀ (i : Int) (W : World), IsTree W w.heap.size T → Calls Try.prog 8 #[.pointer (some ⟨w.heap.size, 0, none⟩), .int .i64 i] W fun e w' => e = .returned (.int .i64 (getN T i).room) ∧ Below W.heap.size W w') := fun T g i W h => room_any w.heap.size T g.okT i W h
  have RRC : Hid (∀ (T : Nat → Nd), Good T a0 → ∀ (i : Int) (p : Option Addr) (c : Nat) (W : World), IsBox W (w.heap.size + 1) p (boxN T 64) → Calls Try.prog 9 #[.slice p (liveL T 64).length c, .int .i64 i] W fun e w' => e = .returned (.int .i64 (getN T i).room) ∧ Below W.heap.size W w') := fun T g i p c W h => by
    have := roomB_any (w.heap.size + 1) p c (boxN T 64) (box_small T) (box_fit g) i W h
    rw [box_len, room_box g] at this; exact this
  have RLC : Hid (∀ (T : Nat → Nd), Good T a0 → ∀ (kk : Nat), kk < 64 → ∀ (p : Option Addr) (c : Nat) (W : World), IsBox W (w.heap.size + 1) p (boxN T 64) → Calls Try.prog 11 #[.slice p (liveL T 64).length c, .int .i64 kk] W fun e w' => e = .returned (.int .i64 (T kk).lent) ∧ Below W.heap.size W w') := fun T g kk hk p c W h => by
    have := lentB_any (w.heap.size + 1) p c (boxN T 64) (box_small T) (box_fit g).small kk W h
    rw [box_len, lent_says g kk hk] at this; exact this
  clear H1 kb
  have mm : (n1 : Int) ≤ 9223372036854775807 := by have : maxLen ≤ 9223372036854775807 := by decide +kernel
                                                   omega
  go_enter Try.func3, Try.ntmps3
  go_wp2_with fail
  refine (NW.out _).mono ?_
  rintro e u0 ⟨rfl, h0⟩
  have M0 : Hid (OwnG w u0 w.heap.size (rootT a0) a0) := ⟨h0, GR.out⟩
  clear h0 NW GR
  go_wp2_with fail
  refine (AW.out _).mono ?_
  rintro e ua ⟨rfl, hba⟩
  have Ma : Hid (OwnG w (ua.alloc (.cells #[.int .i64 0, .int .i64 (-1), .int .i64 a0, .int .i64 0] 29)) w.heap.size (rootT a0) a0) := (M0.out.grow hba).grow (Go.Joins.below_alloc1 _ _)
  have Xa : Hid (IsBox (ua.alloc (.cells #[.int .i64 0, .int .i64 (-1), .int .i64 a0, .int .i64 0] 29)) (w.heap.size + 1) (some ⟨ua.heap.size, 0, none⟩) (boxN (rootT a0) 64)) := root_row ua a0 _ (by have := (M0.out.grow hba).1.1.2.2; omega)
  clear hba M0
  go_wp2_with fail
  go_loopw [7, 8] (fun l x W => ∃ (k : Nat) (T : Nat → Nd) (p : Option Addr) (c : Nat), k ≤ n1 ∧ k ≤ 100 ∧ l = .slice p (liveL T 64).length c ∧ x = .int .i64 k ∧ Hid (OwnG w W w.heap.size T a0) ∧ Hid (IsBox W (w.heap.size + 1) p (boxN T 64))) (fun _ x _ => 100 - (intOf x).toNat)
  case atStart => exact ⟨0, rootT a0, _, _, by omega, by omega, by rw [RL.out], rfl, Ma, Xa⟩
  case round =>
    obtain ⟨k, T, p, c, hk, hk6, rfl, rfl, hM, hX⟩ := hrel
    by_cases hlt : k < n1 ∧ k < 100
    · have hd : decide ((k : Int) < (n1 : Int)) = true := by simp; omega
      have hd2 : decide ((k : Int) < 100) = true := by simp; omega
      have hkn : k < n1 := hlt.1
      obtain ⟨b, o, rfl, lb, c0, c1, c2⟩ := HA.out k hlt.1
      generalize K1 k = a_k at c0
      generalize I1 k = a_i at c1
      generalize N1 k = a_n at c2
      have d0 := (hM.out.1.2.1.cell (p := ⟨b, _, none⟩) lb).trans c0
      have d1 := (hM.out.1.2.1.cell (p := ⟨b, _, none⟩) lb).trans c1
      have d2 := (hM.out.1.2.1.cell (p := ⟨b, _, none⟩) lb).trans c2
      have C1 : Hid (w.cell? ⟨b, o + k * 3 + 1, none⟩ = some (.int .i64 a_i)) := c1
      clear c0 c1 c2
      have dd := DO.out T hM.out.2 p c a_k a_i a_n
      have GD : Hid (Good (doesT T a_k a_i a_n) a0) := hM.out.2.does _ _ _
      obtain ⟨T2, hT2⟩ : ∃ T2, doesT T a_k a_i a_n = T2 := ⟨_, rfl⟩
      rw [hT2] at dd GD
      have DD : Hid _ := dd
      clear dd hT2
      generalize (liveL T 64).length = lT at DD ⊢
      go_wp2_with fail
      refine (DD.out _ hM.out.1.1 hX.out).mono ?_
      rintro e u1 ⟨p2, c2, rfl, h1⟩
      have M1 : Hid (OwnG w u1 w.heap.size T2 a0) := hM.out.next h1.1 h1.2.2 GD.out
      have X1 : Hid (IsBox u1 (w.heap.size + 1) p2 (boxN T2 64)) := h1.2.1
      clear h1 d0 d1 d2 hM hX DD GD
      have GG : Hid (Good T2 a0) := M1.out.2
      have LF : Hid (∀ i, i < (liveL T2 64).length → (liveL T2 64).getD i 0 < 64 ∧ (T2 ((liveL T2 64).getD i 0)).live = true) := fun i hi => live_get T2 i hi
      have ll : (liveL T2 64).length ≤ 64 := live_len T2 64
      have BG : Hid (∀ i, i < (liveL T2 64).length → (boxN T2 64).getD i Bx.zero = bx T2 ((liveL T2 64).getD i 0)) := fun i hi => box_get T2 i (by rw [box_len]; exact hi)
      have BL : Hid ((boxN T2 64).length = (liveL T2 64).length) := box_len T2 64
      have LVH : Hid _ := LVC.out T2
      have RM : Hid _ := RMC.out T2 GG.out a_i
      have RR : Hid _ := RRC.out T2 GG.out a_i
      have RQ : Hid _ := RLC.out T2 GG.out
      generalize (getN T2 a_i).room = ro at RM RR
      generalize hL : liveL T2 64 = L at LF ll LVH RR RQ BG BL ⊢
      have HL : Hid (liveL T2 64 = L) := hL
      clear hL
      go_wp2_with fail
      refine (LVH.out _ M1.out.1.1).mono ?_
      rintro e u9 ⟨⟨p9, c9, rfl, hr⟩, hb1⟩
      have M2 : Hid (OwnG w u9 w.heap.size T2 a0) := M1.out.grow hb1
      have X2 : Hid (IsBox u9 (w.heap.size + 1) p2 (boxN T2 64)) := X1.out.below hb1
      have R1 : Hid (IsRow u9 (w.heap.size + 1) p9 L) := hr
      have d1 : u9.cell? ⟨b, o + k * 3 + 1, none⟩ = some (.int .i64 a_i) := (M2.out.1.2.1.cell (p := ⟨b, _, none⟩) lb).trans C1.out
      have lb9 : b < u9.heap.size := Nat.lt_of_lt_of_le lb M2.out.1.2.1.size
      clear hr hb1 M1 X1
      go_wp2_with fail
      refine wp_region_noPanic ?_
      refine wp_region_held_drew (S := fun c => c.cell? ⟨b, o + k * 3 + 1, none⟩ = some (.int .i64 a_i)) (by kernel_rfl) ?_ (fun hHeld => ?_)
      · exact d1
      refine wpAnyH_take (i := 0) (oi := ⟨some 74, _, _, _, _, none⟩) (v := ?_) rfl (by kernel_rfl) (by kernel_rfl) (by kernel_rfl) (fun _ _ _ h => h) (Or.inl ⟨by rfl, ?_⟩) (by assumption) ?_
      rotate_left
      · intro w hSw; (try dsimp only at hSw); go_simp; (try with_reducible rfl)
      try simp only [Act.put, List.setIfInBounds_toArray, List.set_cons_zero, List.set_cons_succ]
      refine wpAnyH_take (i := 1) (oi := ⟨some 75, _, _, _, _, none⟩) (v := ?_) rfl (by kernel_rfl) (by kernel_rfl) (by kernel_rfl) (fun _ _ _ h => h) (Or.inl ⟨by rfl, ?_⟩) (by assumption) ?_
      rotate_left
      · intro w hSw; (try dsimp only at hSw); go_simp; (try with_reducible rfl)
      try simp only [Act.put, List.setIfInBounds_toArray, List.set_cons_zero, List.set_cons_succ]
      refine wpAnyH_take (i := 2) (oi := ⟨some 76, _, _, _, _, none⟩) (v := ?_) rfl (by kernel_rfl) (by kernel_rfl) (by kernel_rfl) (fun _ _ _ h => h) (Or.inl ⟨by rfl, ?_⟩) (by assumption) ?_
      rotate_left
      · intro w hSw; (try dsimp only at hSw); go_simp; (try with_reducible rfl)
      try simp only [Act.put, List.setIfInBounds_toArray, List.set_cons_zero, List.set_cons_succ]
      refine wpAnyH_take (i := 3) (oi := ⟨some 77, _, _, _, _, some (2, false)⟩) (v := ?_) rfl (by kernel_rfl) (by kernel_rfl) (by kernel_rfl) (fun _ _ _ h => h) (Or.inl ⟨by rfl, ?_⟩) (by assumption) ?_
      rotate_left
      · intro w hSw; (try dsimp only at hSw); go_simp; (try with_reducible rfl)
      try simp only [Act.put, List.setIfInBounds_toArray, List.set_cons_zero, List.set_cons_succ]
      refine wpAnyH_take (i := 4) (oi := ⟨some 78, _, _, _, _, some (2, false)⟩) (v := ?_) rfl (by kernel_rfl) (by kernel_rfl) (by kernel_rfl) (fun _ _ _ h => h) (Or.inl ⟨by rfl, ?_⟩) (by assumption) ?_
      rotate_left
      · intro w hSw; (try dsimp only at hSw); go_simp; (try with_reducible rfl)
      try simp only [Act.put, List.setIfInBounds_toArray, List.set_cons_zero, List.set_cons_succ]
      refine wpAnyH_take (i := 5) (oi := ⟨some 79, _, _, _, _, some (2, false)⟩) (v := ?_) rfl (by kernel_rfl) (by kernel_rfl) (by kernel_rfl) (fun _ _ _ h => h) (Or.inl ⟨by rfl, ?_⟩) (by assumption) ?_
      rotate_left
      · intro w hSw; (try dsimp only at hSw); go_simp; (try with_reducible rfl)
      try simp only [Act.put, List.setIfInBounds_toArray, List.set_cons_zero, List.set_cons_succ]
      refine wpAnyH_take (i := 6) (oi := ⟨some 80, _, _, _, _, some (2, false)⟩) (v := ?_) rfl (by kernel_rfl) (by kernel_rfl) (by kernel_rfl) (fun _ _ _ h => h) (Or.inl ⟨by rfl, ?_⟩) (by assumption) ?_
      rotate_left
      · intro w hSw; (try dsimp only at hSw); go_simp; (try with_reducible rfl)
      try simp only [Act.put, List.setIfInBounds_toArray, List.set_cons_zero, List.set_cons_succ]
      refine wpAnyH_take (i := 7) (oi := ⟨some 81, _, _, _, _, some (2, false)⟩) (v := .bool false) rfl (by kernel_rfl) (by kernel_rfl) (by kernel_rfl) (fun _ _ _ h => h) (Or.inl ⟨by rfl, ?_⟩) (by assumption) ?_
      · intro w hSw; (try dsimp only at hSw); go_simp; (try simp); (try omega)
      try simp only [Act.put, List.setIfInBounds_toArray, List.set_cons_zero, List.set_cons_succ]
      refine wpAnyH_take (i := 8) (oi := ⟨some 82, _, _, _, _, none⟩) (v := ?_) rfl (by kernel_rfl) (by kernel_rfl) (by kernel_rfl) (fun _ _ _ h => h) (Or.inl ⟨by rfl, ?_⟩) (by assumption) ?_
      rotate_left
      · intro w hSw; (try dsimp only at hSw); go_simp; (try with_reducible rfl)
      try simp only [Act.put, List.setIfInBounds_toArray, List.set_cons_zero, List.set_cons_succ]
      refine wpAnyH_take (i := 9) (oi := ⟨some 83, _, _, _, _, none⟩) (v := ?_) rfl (by kernel_rfl) (by kernel_rfl) (by kernel_rfl) (fun _ _ _ h => h) (Or.inl ⟨by rfl, ?_⟩) (by assumption) ?_
      rotate_left
      · intro w hSw; (try dsimp only at hSw); go_simp; (try with_reducible rfl)
      try simp only [Act.put, List.setIfInBounds_toArray, List.set_cons_zero, List.set_cons_succ]
      refine wpAnyH_take (i := 10) (oi := ⟨some 84, _, _, _, _, some (9, false)⟩) (v := ?_) rfl (by kernel_rfl) (by kernel_rfl) (by kernel_rfl) (fun _ _ _ h => h) (Or.inl ⟨by rfl, ?_⟩) (by assumption) ?_
      rotate_left
      · intro w hSw; (try dsimp only at hSw); go_simp; (try with_reducible rfl)
      try simp only [Act.put, List.setIfInBounds_toArray, List.set_cons_zero, List.set_cons_succ]
      refine wpAnyH_take (i := 11) (oi := ⟨some 85, _, _, _, _, some (9, false)⟩) (v := ?_) rfl (by kernel_rfl) (by kernel_rfl) (by kernel_rfl) (fun _ _ _ h => h) (Or.inl ⟨by rfl, ?_⟩) (by assumption) ?_
      rotate_left
      · intro w hSw; (try dsimp only at hSw); go_simp; (try with_reducible rfl)
      try simp only [Act.put, List.setIfInBounds_toArray, List.set_cons_zero, List.set_cons_succ]
      refine wpAnyH_take (i := 12) (oi := ⟨some 86, _, _, _, _, some (9, false)⟩) (v := ?_) rfl (by kernel_rfl) (by kernel_rfl) (by kernel_rfl) (fun _ _ _ h => h) (Or.inl ⟨by rfl, ?_⟩) (by assumption) ?_
      rotate_left
      · intro w hSw; (try dsimp only at hSw); go_simp; (try with_reducible rfl)
      try simp only [Act.put, List.setIfInBounds_toArray, List.set_cons_zero, List.set_cons_succ]
      refine wpAnyH_take (i := 13) (oi := ⟨some 87, _, _, _, _, some (9, false)⟩) (v := .pointer (some ⟨b, o + k * 3, none⟩)) rfl (by kernel_rfl) (by kernel_rfl) (by kernel_rfl) (fun _ _ _ h => h) (Or.inl ⟨by rfl, ?_⟩) (by assumption) ?_
      · intro w hSw; (try dsimp only at hSw); go_simp; (try simp [hkn]); (try omega)
      try simp only [Act.put, List.setIfInBounds_toArray, List.set_cons_zero, List.set_cons_succ]
      refine wpAnyH_take (i := 14) (oi := ⟨some 88, _, _, _, _, some (9, false)⟩) (v := ?_) rfl (by kernel_rfl) (by kernel_rfl) (by kernel_rfl) (fun _ _ _ h => h) (Or.inl ⟨by rfl, ?_⟩) (by assumption) ?_
      rotate_left
      · intro w hSw; (try dsimp only at hSw); go_simp; (try with_reducible rfl)
      try simp only [Act.put, List.setIfInBounds_toArray, List.set_cons_zero, List.set_cons_succ]
      refine wpAnyH_take (i := 15) (oi := ⟨some 89, _, _, _, _, some (9, false)⟩) (v := ?_) rfl (by kernel_rfl) (by kernel_rfl) (by kernel_rfl) (fun _ _ _ h => h) (Or.inl ⟨by rfl, ?_⟩) (by assumption) ?_
      rotate_left
      · intro w hSw; (try dsimp only at hSw); go_simp; (try with_reducible rfl)
      try simp only [Act.put, List.setIfInBounds_toArray, List.set_cons_zero, List.set_cons_succ]
      refine wpAnyH_take (i := 17) (oi := ⟨some 91, _, _, _, _, some (9, false)⟩) (v := ?_) rfl (by kernel_rfl) (by kernel_rfl) (by kernel_rfl) (fun _ _ _ h => h) (Or.inl ⟨by rfl, ?_⟩) (by assumption) ?_
      rotate_left
      · intro w hSw; (try dsimp only at hSw); go_simp; (try with_reducible rfl)
      try simp only [Act.put, List.setIfInBounds_toArray, List.set_cons_zero, List.set_cons_succ]
      refine wpAnyH_take (i := 18) (oi := ⟨some 92, _, _, _, _, some (9, false)⟩) (v := ?_) rfl (by kernel_rfl) (by kernel_rfl) (by kernel_rfl) (fun _ _ _ h => h) (Or.inl ⟨by rfl, ?_⟩) (by assumption) ?_
      rotate_left
      · intro w hSw; (try dsimp only at hSw); go_simp; (try with_reducible rfl)
      try simp only [Act.put, List.setIfInBounds_toArray, List.set_cons_zero, List.set_cons_succ]
      refine wpAnyH_take (i := 19) (oi := ⟨some 93, _, _, _, _, some (9, false)⟩) (v := ?_) rfl (by kernel_rfl) (by kernel_rfl) (by kernel_rfl) (fun _ _ _ h => h) (Or.inl ⟨by rfl, ?_⟩) (by assumption) ?_
      rotate_left
      · intro w hSw; (try dsimp only at hSw); go_simp; (try with_reducible rfl)
      try simp only [Act.put, List.setIfInBounds_toArray, List.set_cons_zero, List.set_cons_succ]
      refine wpAnyH_take (i := 20) (oi := ⟨some 94, _, _, _, _, some (9, false)⟩) (v := .pointer (some ⟨b, o + k * 3, none⟩)) rfl (by kernel_rfl) (by kernel_rfl) (by kernel_rfl) (fun _ _ _ h => h) (Or.inl ⟨by rfl, ?_⟩) (by assumption) ?_
      · intro w hSw; (try dsimp only at hSw); go_simp; (try simp [hkn]); (try omega)
      try simp only [Act.put, List.setIfInBounds_toArray, List.set_cons_zero, List.set_cons_succ]
      refine wpAnyH_take (i := 21) (oi := ⟨some 95, _, _, _, _, some (9, false)⟩) (v := ?_) rfl (by kernel_rfl) (by kernel_rfl) (by kernel_rfl) (fun _ _ _ h => h) (Or.inl ⟨by rfl, ?_⟩) (by assumption) ?_
      rotate_left
      · intro w hSw; (try dsimp only at hSw); go_simp; (try with_reducible rfl)
      try simp only [Act.put, List.setIfInBounds_toArray, List.set_cons_zero, List.set_cons_succ]
      refine wpAnyH_take (i := 22) (oi := ⟨some 96, _, _, _, _, some (9, false)⟩) (v := ?_) rfl (by kernel_rfl) (by kernel_rfl) (by kernel_rfl) (fun _ _ _ h => h) (Or.inl ⟨by rfl, ?_⟩) (by assumption) ?_
      rotate_left
      · intro w hSw; (try dsimp only at hSw); go_simp; (try with_reducible rfl)
      try simp only [Act.put, List.setIfInBounds_toArray, List.set_cons_zero, List.set_cons_succ]
      have MD : Hid (OwnG w u9.drew w.heap.size T2 a0) := ⟨⟨M2.out.1.1.drew, below_drew M2.out.1.2.1, M2.out.1.2.2⟩, M2.out.2⟩
      have XD : Hid (IsBox u9.drew (w.heap.size + 1) p2 (boxN T2 64)) := X2.out.below (below_drew (Below.refl _ _))
      have RD : Hid (IsRow u9.drew (w.heap.size + 1) p9 L) := R1.out.below (below_drew (Below.refl _ _))
      have lD : b < u9.drew.heap.size := lb9
      clear M2 X2 R1
      generalize u9.drew = U at MD XD RD lD hHeld ⊢
      refine wpAnyH_ready (rs := [16]) (by kernel_rfl) (by simp) ?_
      refine AllReadyH.cons (o := ⟨some 90, _, _, _, _, some (9, false)⟩) rfl (fun K hK => ?_) AllReadyH.nil
      go_simp
      go_wp2_with (go_at_call 8; refine (RM.out _ MD.out.1.1).mono ?_; rintro e u3 ⟨rfl, hb3⟩)
      have MDu3 : Hid (OwnG w u3 w.heap.size T2 a0) := MD.out.grow hb3
      have XDu3 : Hid (IsBox u3 (w.heap.size + 1) p2 (boxN T2 64)) := XD.out.below hb3
      have RDu3 : Hid (IsRow u3 (w.heap.size + 1) p9 L) := RD.out.below hb3
      have hHu3 : u3.cell? ⟨b, o + k * 3 + 1, none⟩ = some (.int .i64 a_i) := (hb3.cell (p := ⟨b, _, none⟩) lD).trans hHeld
      have lDu3 : b < u3.heap.size := Nat.lt_of_lt_of_le lD hb3.size
      clear hb3 MD XD RD lD hHeld
      refine hK.out _ _ hHu3 (fun hHeldu3 => ?_)
      clear hK K hHu3
      try simp only [Act.put, List.setIfInBounds_toArray, List.set_cons_zero, List.set_cons_succ]
      refine wpAnyH_ready (rs := [23]) (by kernel_rfl) (by simp) ?_
      refine AllReadyH.cons (o := ⟨some 97, _, _, _, _, some (9, false)⟩) rfl (fun Ku3 hKu3 => ?_) AllReadyH.nil
      go_simp
      go_wp2_with (go_at_call 9; refine (RR.out _ _ _ XDu3.out).mono ?_; rintro e u4 ⟨rfl, hb3⟩)
      have MDu4 : Hid (OwnG w u4 w.heap.size T2 a0) := MDu3.out.grow hb3
      have XDu4 : Hid (IsBox u4 (w.heap.size + 1) p2 (boxN T2 64)) := XDu3.out.below hb3
      have RDu4 : Hid (IsRow u4 (w.heap.size + 1) p9 L) := RDu3.out.below hb3
      have hHu4 : u4.cell? ⟨b, o + k * 3 + 1, none⟩ = some (.int .i64 a_i) := (hb3.cell (p := ⟨b, _, none⟩) lDu3).trans hHeldu3
      have lDu4 : b < u4.heap.size := Nat.lt_of_lt_of_le lDu3 hb3.size
      clear hb3 MDu3 XDu3 RDu3 lDu3 hHeldu3
      refine hKu3.out _ _ hHu4 (fun hHeldu4 => ?_)
      clear hKu3 Ku3 hHu4
      try simp only [Act.put, List.setIfInBounds_toArray, List.set_cons_zero, List.set_cons_succ]
      refine wpAnyH_take (i := 24) (oi := ⟨some 98, _, _, _, _, some (9, false)⟩) (v := .bool false) rfl (by kernel_rfl) (by kernel_rfl) (by kernel_rfl) (fun _ _ _ h => h) (Or.inl ⟨by rfl, ?_⟩) (by assumption) ?_
      · intro w hSw; (try dsimp only at hSw); go_simp; (try simp); (try omega)
      try simp only [Act.put, List.setIfInBounds_toArray, List.set_cons_zero, List.set_cons_succ]
      refine wpAnyH_take (i := 25) (oi := ⟨some 99, _, _, _, _, none⟩) (v := ?_) rfl (by kernel_rfl) (by kernel_rfl) (by kernel_rfl) (fun _ _ _ h => h) (Or.inl ⟨by rfl, ?_⟩) (by assumption) ?_
      rotate_left
      · intro w hSw; (try dsimp only at hSw); go_simp; (try with_reducible rfl)
      try simp only [Act.put, List.setIfInBounds_toArray, List.set_cons_zero, List.set_cons_succ]
      clear hHeldu4
      refine wpAnyH_done (by kernel_rfl) ?_ _
      refine NoPanic.normal ?_
      go_wp2_with fail
      go_loopw [102] (fun x W => ∃ m : Nat, m ≤ L.length ∧ x = .int .i64 m ∧ Hid (OwnG w W w.heap.size T2 a0) ∧ Hid (IsBox W (w.heap.size + 1) p2 (boxN T2 64)) ∧ Hid (IsRow W (w.heap.size + 1) p9 L)) (fun x _ => L.length - (intOf x).toNat)
      case atStart => exact ⟨0, by omega, rfl, MDu4, XDu4, RDu4⟩
      case round =>
        obtain ⟨m, hm, rfl, hM3, hX3, hR3⟩ := hrel
        by_cases hlm : m < L.length
        · have hdm : decide ((m : Int) < (L.length : Int)) = true := by simp; omega
          obtain ⟨g, rfl, g1, g2, gc⟩ := hR3.out m hlm
          obtain ⟨h, rfl, h1, h2, hc⟩ := hX3.out m (by rw [BL.out]; exact hlm)
          have kl := LF.out m hlm
          rw [BG.out m hlm] at hc
          generalize L.getD m 0 = kk at gc kl hc
          obtain ⟨k64, klv⟩ := kl
          have nn := GG.out.nn kk k64
          have rb := GG.out.rb1
          have RQ1 := RQ.out kk k64 (some ⟨h, 0, none⟩) c2
          have GT := GTC.out T2 kk k64
          unfold bx at hc
          generalize hlk : T2 kk = lk at nn RQ1 GT klv hc
          obtain ⟨lp, lq, lu, lz, lv⟩ := lk
          simp only at nn RQ1 GT klv hc
          subst klv
          have y0 : wr.cell? ⟨h, m * 4, none⟩ = some (.int .i64 kk) := hc 0 _ rfl
          have y1 : wr.cell? ⟨h, m * 4 + 1, none⟩ = some (.int .i64 lp) := hc 1 _ rfl
          have y2 : wr.cell? ⟨h, m * 4 + 2, none⟩ = some (.int .i64 lq) := hc 2 _ rfl
          have y3 : wr.cell? ⟨h, m * 4 + 3, none⟩ = some (.int .i64 lu) := hc 3 _ rfl
          have RQ' : Hid _ := RQ1
          have GT' : Hid _ := GT
          clear RQ1 GT hlk hc nn rb
          go_wp2_with fail
          refine (GT'.out _ (hM3.out.grow (Go.Joins.below_alloc1 _ _)).1.1).mono ?_
          rintro e u2 ⟨rfl, hb2⟩
          have z0 : u2.cell? ⟨wr.heap.size, 0, none⟩ = some (.int .i64 kk) := (hb2.cell (p := ⟨wr.heap.size, 0, none⟩) (by simp)).trans (by simp)
          have z1 : u2.cell? ⟨wr.heap.size, 1, none⟩ = some (.int .i64 lp) := (hb2.cell (p := ⟨wr.heap.size, 1, none⟩) (by simp)).trans (by simp)
          have z2 : u2.cell? ⟨wr.heap.size, 2, none⟩ = some (.int .i64 lq) := (hb2.cell (p := ⟨wr.heap.size, 2, none⟩) (by simp)).trans (by simp)
          have z3 : u2.cell? ⟨wr.heap.size, 3, none⟩ = some (.int .i64 lu) := (hb2.cell (p := ⟨wr.heap.size, 3, none⟩) (by simp)).trans (by simp)
          have lz2 : wr.heap.size < u2.heap.size := Nat.lt_of_lt_of_le (by simp) hb2.size
          have BW : Hid (Below wr.heap.size wr u2) := below_then (Go.Joins.below_alloc1 _ _) hb2
          have q0 : u2.cell? ⟨g, m, none⟩ = some (.int .i64 kk) := (BW.out.cell (p := ⟨g, m, none⟩) g2).trans gc
          have lg2 : g < u2.heap.size := Nat.lt_of_lt_of_le g2 BW.out.size
          have M4 : Hid (OwnG w u2 w.heap.size T2 a0) := hM3.out.grow BW.out
          have X4 : Hid (IsBox u2 (w.heap.size + 1) (some ⟨h, 0, none⟩) (boxN T2 64)) := hX3.out.below BW.out
          have R4 : Hid (IsRow u2 (w.heap.size + 1) (some ⟨g, 0, none⟩) L) := hR3.out.below BW.out
          clear hb2 gc g1 g2 h1 h2 y0 y1 y2 y3 hM3 hX3 hR3 BW
          generalize wr.heap.size = wb at z0 z1 z2 z3 lz2 ⊢
          go_wp2_with fail
          refine wp_region_noPanic ?_
          refine wp_region_held_drew (S := fun c => c.cell? ⟨wb, 0, none⟩ = some (.int .i64 kk) ∧ c.cell? ⟨wb, 1, none⟩ = some (.int .i64 lp) ∧ c.cell? ⟨wb, 2, none⟩ = some (.int .i64 lq) ∧ c.cell? ⟨wb, 3, none⟩ = some (.int .i64 lu) ∧ c.cell? ⟨u2.heap.size, 0, none⟩ = some (.int .i64 lp) ∧ c.cell? ⟨u2.heap.size, 1, none⟩ = some (.int .i64 lq) ∧ c.cell? ⟨u2.heap.size, 2, none⟩ = some (.int .i64 lu) ∧ c.cell? ⟨u2.heap.size, 3, none⟩ = some (.int .i64 lz) ∧ c.cell? ⟨u2.heap.size, 4, none⟩ = some (.bool true) ∧ c.cell? ⟨g, m, none⟩ = some (.int .i64 kk)) (by kernel_rfl) ?_ (fun hHeld => ?_)
          · exact ⟨(World.cell?_alloc_lt _ _ _ (by exact lz2)).trans z0, (World.cell?_alloc_lt _ _ _ (by exact lz2)).trans z1, (World.cell?_alloc_lt _ _ _ (by exact lz2)).trans z2, (World.cell?_alloc_lt _ _ _ (by exact lz2)).trans z3, by simp, by simp, by simp, by simp, by simp, (World.cell?_alloc_lt _ _ _ (by exact lg2)).trans q0⟩
          refine wpAnyH_take (i := 0) (oi := ⟨some 114, _, _, _, _, none⟩) (v := ?_) rfl (by kernel_rfl) (by kernel_rfl) (by kernel_rfl) (fun _ _ _ h => h) (Or.inl ⟨by rfl, ?_⟩) (by assumption) ?_
          rotate_left
          · intro w hSw; (try dsimp only at hSw); go_simp; (try with_reducible rfl)
          try simp only [Act.put, List.setIfInBounds_toArray, List.set_cons_zero, List.set_cons_succ]
          refine wpAnyH_take (i := 1) (oi := ⟨some 115, _, _, _, _, none⟩) (v := ?_) rfl (by kernel_rfl) (by kernel_rfl) (by kernel_rfl) (fun _ _ _ h => h) (Or.inl ⟨by rfl, ?_⟩) (by assumption) ?_
          rotate_left
          · intro w hSw; (try dsimp only at hSw); go_simp; (try with_reducible rfl)
          try simp only [Act.put, List.setIfInBounds_toArray, List.set_cons_zero, List.set_cons_succ]
          refine wpAnyH_take (i := 2) (oi := ⟨some 116, _, _, _, _, none⟩) (v := .pointer (some ⟨g, m, none⟩)) rfl (by kernel_rfl) (by kernel_rfl) (by kernel_rfl) (fun _ _ _ h => h) (Or.inl ⟨by rfl, ?_⟩) (by assumption) ?_
          · intro w hSw; (try dsimp only at hSw); go_simp; (try simp [hlm]); (try omega)
          try simp only [Act.put, List.setIfInBounds_toArray, List.set_cons_zero, List.set_cons_succ]
          refine wpAnyH_take (i := 3) (oi := ⟨some 117, _, _, _, _, none⟩) (v := ?_) rfl (by kernel_rfl) (by kernel_rfl) (by kernel_rfl) (fun _ _ _ h => h) (Or.inl ⟨by rfl, ?_⟩) (by assumption) ?_
          rotate_left
          · intro w hSw; (try dsimp only at hSw); go_simp; (try with_reducible rfl)
          try simp only [Act.put, List.setIfInBounds_toArray, List.set_cons_zero, List.set_cons_succ]
          refine wpAnyH_take (i := 4) (oi := ⟨some 118, _, _, _, _, none⟩) (v := ?_) rfl (by kernel_rfl) (by kernel_rfl) (by kernel_rfl) (fun _ _ _ h => h) (Or.inl ⟨by rfl, ?_⟩) (by assumption) ?_
          rotate_left
          · intro w hSw; (try dsimp only at hSw); go_simp; (try with_reducible rfl)
          try simp only [Act.put, List.setIfInBounds_toArray, List.set_cons_zero, List.set_cons_succ]
          refine wpAnyH_take (i := 5) (oi := ⟨some 119, _, _, _, _, none⟩) (v := ?_) rfl (by kernel_rfl) (by kernel_rfl) (by kernel_rfl) (fun _ _ _ h => h) (Or.inl ⟨by rfl, ?_⟩) (by assumption) ?_
          rotate_left
          · intro w hSw; (try dsimp only at hSw); go_simp; (try with_reducible rfl)
          try simp only [Act.put, List.setIfInBounds_toArray, List.set_cons_zero, List.set_cons_succ]
          refine wpAnyH_take (i := 6) (oi := ⟨some 120, _, _, _, _, none⟩) (v := .bool false) rfl (by kernel_rfl) (by kernel_rfl) (by kernel_rfl) (fun _ _ _ h => h) (Or.inl ⟨by rfl, ?_⟩) (by assumption) ?_
          · intro w hSw; (try dsimp only at hSw); go_simp; (try simp); (try omega)
          try simp only [Act.put, List.setIfInBounds_toArray, List.set_cons_zero, List.set_cons_succ]
          refine wpAnyH_take (i := 7) (oi := ⟨some 121, _, _, _, _, none⟩) (v := ?_) rfl (by kernel_rfl) (by kernel_rfl) (by kernel_rfl) (fun _ _ _ h => h) (Or.inl ⟨by rfl, ?_⟩) (by assumption) ?_
          rotate_left
          · intro w hSw; (try dsimp only at hSw); go_simp; (try with_reducible rfl)
          try simp only [Act.put, List.setIfInBounds_toArray, List.set_cons_zero, List.set_cons_succ]
          refine wpAnyH_take (i := 8) (oi := ⟨some 122, _, _, _, _, some (7, false)⟩) (v := ?_) rfl (by kernel_rfl) (by kernel_rfl) (by kernel_rfl) (fun _ _ _ h => h) (Or.inl ⟨by rfl, ?_⟩) (by assumption) ?_
          rotate_left
          · intro w hSw; (try dsimp only at hSw); go_simp; (try with_reducible rfl)
          try simp only [Act.put, List.setIfInBounds_toArray, List.set_cons_zero, List.set_cons_succ]
          refine wpAnyH_take (i := 9) (oi := ⟨some 123, _, _, _, _, some (7, false)⟩) (v := .bool false) rfl (by kernel_rfl) (by kernel_rfl) (by kernel_rfl) (fun _ _ _ h => h) (Or.inl ⟨by rfl, ?_⟩) (by assumption) ?_
          · intro w hSw; (try dsimp only at hSw); go_simp; (try simp)
          try simp only [Act.put, List.setIfInBounds_toArray, List.set_cons_zero, List.set_cons_succ]
          refine wpAnyH_take (i := 10) (oi := ⟨some 124, _, _, _, _, none⟩) (v := ?_) rfl (by kernel_rfl) (by kernel_rfl) (by kernel_rfl) (fun _ _ _ h => h) (Or.inl ⟨by rfl, ?_⟩) (by assumption) ?_
          rotate_left
          · intro w hSw; (try dsimp only at hSw); go_simp; (try with_reducible rfl)
          try simp only [Act.put, List.setIfInBounds_toArray, List.set_cons_zero, List.set_cons_succ]
          refine wpAnyH_take (i := 11) (oi := ⟨some 125, _, _, _, _, none⟩) (v := ?_) rfl (by kernel_rfl) (by kernel_rfl) (by kernel_rfl) (fun _ _ _ h => h) (Or.inl ⟨by rfl, ?_⟩) (by assumption) ?_
          rotate_left
          · intro w hSw; (try dsimp only at hSw); go_simp; (try with_reducible rfl)
          try simp only [Act.put, List.setIfInBounds_toArray, List.set_cons_zero, List.set_cons_succ]
          refine wpAnyH_take (i := 12) (oi := ⟨some 126, _, _, _, _, some (11, false)⟩) (v := .agg #[.int .i64 lp, .int .i64 lq, .int .i64 lu, .int .i64 lz, .bool true]) rfl (by kernel_rfl) (by kernel_rfl) (by kernel_rfl) (fun _ _ _ h => h) (Or.inl ⟨by rfl, ?_⟩) (by assumption) ?_
          · intro w hSw; (try dsimp only at hSw); go_simp; (try simp [hSw])
          try simp only [Act.put, List.setIfInBounds_toArray, List.set_cons_zero, List.set_cons_succ]
          refine wpAnyH_take (i := 13) (oi := ⟨some 127, _, _, _, _, some (11, false)⟩) (v := ?_) rfl (by kernel_rfl) (by kernel_rfl) (by kernel_rfl) (fun _ _ _ h => h) (Or.inl ⟨by rfl, ?_⟩) (by assumption) ?_
          rotate_left
          · intro w hSw; (try dsimp only at hSw); go_simp; (try with_reducible rfl)
          try simp only [Act.put, List.setIfInBounds_toArray, List.set_cons_zero, List.set_cons_succ]
          refine wpAnyH_take (i := 14) (oi := ⟨some 128, _, _, _, _, some (11, false)⟩) (v := ?_) rfl (by kernel_rfl) (by kernel_rfl) (by kernel_rfl) (fun _ _ _ h => h) (Or.inl ⟨by rfl, ?_⟩) (by assumption) ?_
          rotate_left
          · intro w hSw; (try dsimp only at hSw); go_simp; (try with_reducible rfl)
          try simp only [Act.put, List.setIfInBounds_toArray, List.set_cons_zero, List.set_cons_succ]
          refine wpAnyH_take (i := 15) (oi := ⟨some 129, _, _, _, _, some (11, false)⟩) (v := ?_) rfl (by kernel_rfl) (by kernel_rfl) (by kernel_rfl) (fun _ _ _ h => h) (Or.inl ⟨by rfl, ?_⟩) (by assumption) ?_
          rotate_left
          · intro w hSw; (try dsimp only at hSw); go_simp; (try with_reducible rfl)
          try simp only [Act.put, List.setIfInBounds_toArray, List.set_cons_zero, List.set_cons_succ]
          refine wpAnyH_take (i := 16) (oi := ⟨some 130, _, _, _, _, some (11, false)⟩) (v := ?_) rfl (by kernel_rfl) (by kernel_rfl) (by kernel_rfl) (fun _ _ _ h => h) (Or.inl ⟨by rfl, ?_⟩) (by assumption) ?_
          rotate_left
          · intro w hSw; (try dsimp only at hSw); go_simp; (try with_reducible rfl)
          try simp only [Act.put, List.setIfInBounds_toArray, List.set_cons_zero, List.set_cons_succ]
          refine wpAnyH_take (i := 17) (oi := ⟨some 131, _, _, _, _, some (11, false)⟩) (v := ?_) rfl (by kernel_rfl) (by kernel_rfl) (by kernel_rfl) (fun _ _ _ h => h) (Or.inl ⟨by rfl, ?_⟩) (by assumption) ?_
          rotate_left
          · intro w hSw; (try dsimp only at hSw); go_simp; (try with_reducible rfl)
          try simp only [Act.put, List.setIfInBounds_toArray, List.set_cons_zero, List.set_cons_succ]
          refine wpAnyH_take (i := 18) (oi := ⟨some 132, _, _, _, _, some (11, false)⟩) (v := ?_) rfl (by kernel_rfl) (by kernel_rfl) (by kernel_rfl) (fun _ _ _ h => h) (Or.inl ⟨by rfl, ?_⟩) (by assumption) ?_
          rotate_left
          · intro w hSw; (try dsimp only at hSw); go_simp; (try with_reducible rfl)
          try simp only [Act.put, List.setIfInBounds_toArray, List.set_cons_zero, List.set_cons_succ]
          refine wpAnyH_take (i := 19) (oi := ⟨some 133, _, _, _, _, some (11, false)⟩) (v := ?_) rfl (by kernel_rfl) (by kernel_rfl) (by kernel_rfl) (fun _ _ _ h => h) (Or.inl ⟨by rfl, ?_⟩) (by assumption) ?_
          rotate_left
          · intro w hSw; (try dsimp only at hSw); go_simp; (try with_reducible rfl)
          try simp only [Act.put, List.setIfInBounds_toArray, List.set_cons_zero, List.set_cons_succ]
          refine wpAnyH_take (i := 20) (oi := ⟨some 134, _, _, _, _, some (11, false)⟩) (v := ?_) rfl (by kernel_rfl) (by kernel_rfl) (by kernel_rfl) (fun _ _ _ h => h) (Or.inl ⟨by rfl, ?_⟩) (by assumption) ?_
          rotate_left
          · intro w hSw; (try dsimp only at hSw); go_simp; (try with_reducible rfl)
          try simp only [Act.put, List.setIfInBounds_toArray, List.set_cons_zero, List.set_cons_succ]
          refine wpAnyH_take (i := 21) (oi := ⟨some 135, _, _, _, _, some (11, false)⟩) (v := ?_) rfl (by kernel_rfl) (by kernel_rfl) (by kernel_rfl) (fun _ _ _ h => h) (Or.inl ⟨by rfl, ?_⟩) (by assumption) ?_
          rotate_left
          · intro w hSw; (try dsimp only at hSw); go_simp; (try with_reducible rfl)
          try simp only [Act.put, List.setIfInBounds_toArray, List.set_cons_zero, List.set_cons_succ]
          have MD : Hid (OwnG w (u2.alloc (.cells #[.int .i64 lp, .int .i64 lq, .int .i64 lu, .int .i64 lz, .bool true] 40)).drew w.heap.size T2 a0) := ⟨⟨(M4.out.1.1.below (Go.Joins.below_alloc1 _ _)).drew, below_drew (below_new M4.out.1.2.1 _), M4.out.1.2.2⟩, M4.out.2⟩
          have XD : Hid (IsBox (u2.alloc (.cells #[.int .i64 lp, .int .i64 lq, .int .i64 lu, .int .i64 lz, .bool true] 40)).drew (w.heap.size + 1) (some ⟨h, 0, none⟩) (boxN T2 64)) := X4.out.below (below_drew (Go.Joins.below_alloc1 _ _))
          have RD : Hid (IsRow (u2.alloc (.cells #[.int .i64 lp, .int .i64 lq, .int .i64 lu, .int .i64 lz, .bool true] 40)).drew (w.heap.size + 1) (some ⟨g, 0, none⟩) L) := R4.out.below (below_drew (Go.Joins.below_alloc1 _ _))
          have lD : u2.heap.size < (u2.alloc (.cells #[.int .i64 lp, .int .i64 lq, .int .i64 lu, .int .i64 lz, .bool true] 40)).drew.heap.size := by show _ < (World.alloc _ _).heap.size; simp
          clear M4 X4 R4
          generalize (u2.alloc (.cells #[.int .i64 lp, .int .i64 lq, .int .i64 lu, .int .i64 lz, .bool true] 40)).drew = U at MD XD RD lD hHeld ⊢
          refine wpAnyH_ready (rs := [22]) (by kernel_rfl) (by simp) ?_
          refine AllReadyH.cons (o := ⟨some 136, _, _, _, _, some (11, false)⟩) rfl (fun K hK => ?_) AllReadyH.nil
          go_simp
          go_wp2_with (go_at_call 11; refine (RQ'.out _ XD.out).mono ?_; rintro e u3 ⟨rfl, hb3⟩)
          have M5 : Hid (OwnG w u3 w.heap.size T2 a0) := MD.out.grow hb3
          have X5 : Hid (IsBox u3 (w.heap.size + 1) (some ⟨h, 0, none⟩) (boxN T2 64)) := XD.out.below hb3
          have R5 : Hid (IsRow u3 (w.heap.size + 1) (some ⟨g, 0, none⟩) L) := RD.out.below hb3
          obtain ⟨i1, i2, i3, i4, i5, i6, i7, i8, i9, i10⟩ := hHeld
          refine hK.out _ _ ⟨(hb3.cell (p := ⟨_, _, none⟩) ((Nat.lt_trans lz2 lD))).trans i1, (hb3.cell (p := ⟨_, _, none⟩) ((Nat.lt_trans lz2 lD))).trans i2, (hb3.cell (p := ⟨_, _, none⟩) ((Nat.lt_trans lz2 lD))).trans i3, (hb3.cell (p := ⟨_, _, none⟩) ((Nat.lt_trans lz2 lD))).trans i4, (hb3.cell (p := ⟨_, _, none⟩) (lD)).trans i5, (hb3.cell (p := ⟨_, _, none⟩) (lD)).trans i6, (hb3.cell (p := ⟨_, _, none⟩) (lD)).trans i7, (hb3.cell (p := ⟨_, _, none⟩) (lD)).trans i8, (hb3.cell (p := ⟨_, _, none⟩) (lD)).trans i9, (hb3.cell (p := ⟨_, _, none⟩) ((Nat.lt_trans lg2 lD))).trans i10⟩ (fun hHeld => ?_)
          clear hK K i1 i2 i3 i4 i5 i6 i7 i8 i9 i10 hb3 MD XD RD lD
          try simp only [Act.put, List.setIfInBounds_toArray, List.set_cons_zero, List.set_cons_succ]
          refine wpAnyH_take (i := 23) (oi := ⟨some 137, _, _, _, _, some (11, false)⟩) (v := .agg #[.int .i64 lp, .int .i64 lq, .int .i64 lu, .int .i64 lz, .bool true]) rfl (by kernel_rfl) (by kernel_rfl) (by kernel_rfl) (fun _ _ _ h => h) (Or.inl ⟨by rfl, ?_⟩) (by assumption) ?_
          · intro w hSw; (try dsimp only at hSw); go_simp; (try simp)
          try simp only [Act.put, List.setIfInBounds_toArray, List.set_cons_zero, List.set_cons_succ]
          refine wpAnyH_take (i := 24) (oi := ⟨some 138, _, _, _, _, some (11, false)⟩) (v := .bool false) rfl (by kernel_rfl) (by kernel_rfl) (by kernel_rfl) (fun _ _ _ h => h) (Or.inl ⟨by rfl, ?_⟩) (by assumption) ?_
          · intro w hSw; (try dsimp only at hSw); go_simp; (try simp)
          try simp only [Act.put, List.setIfInBounds_toArray, List.set_cons_zero, List.set_cons_succ]
          refine wpAnyH_take (i := 25) (oi := ⟨some 139, _, _, _, _, none⟩) (v := ?_) rfl (by kernel_rfl) (by kernel_rfl) (by kernel_rfl) (fun _ _ _ h => h) (Or.inl ⟨by rfl, ?_⟩) (by assumption) ?_
          rotate_left
          · intro w hSw; (try dsimp only at hSw); go_simp; (try with_reducible rfl)
          try simp only [Act.put, List.setIfInBounds_toArray, List.set_cons_zero, List.set_cons_succ]
          clear hHeld
          refine wpAnyH_done (by kernel_rfl) ?_ _
          refine NoPanic.normal ?_
          go_wp2_with fail
          go_roundw
          case rel => exact ⟨m + 1, by omega, by go_num, M5, X5, R5⟩
          case measure => simp [intOf]; omega
        · obtain rfl : m = L.length := by omega
          go_wp2_with fail
          go_roundw
          case rel => exact ⟨k + 1, T2, p2, c2, by omega, by omega, by rw [HL.out], by go_num, hM3, hX3⟩
          case measure => simp [intOf]; omega
    · have hM1 : Hid (OwnG w wr w.heap.size T a0) := hM
      clear hM hX DO HA LVC GTC RMC RRC RLC
      generalize (liveL T 64).length = lT
      by_cases hq : k < n1
      · have hd : decide ((k : Int) < (n1 : Int)) = true := by simp; omega
        have hd2 : decide ((k : Int) < 100) = false := by simp; omega
        go_wp2_with fail
        refine (GTO.out _).mono ?_
        rintro e u1 ⟨rfl, hb1⟩
        have M1 : Hid _ := (hM1.out.grow hb1).1.2.1
        clear hb1
        go_wp2_with fail
        go_ret
        exact ⟨rfl, below_new M1.out _⟩
      · have hd : decide ((k : Int) < (n1 : Int)) = false := by simp; omega
        go_wp2_with fail
        refine (GTO.out _).mono ?_
        rintro e u1 ⟨rfl, hb1⟩
        have M1 : Hid _ := (hM1.out.grow hb1).1.2.1
        clear hb1
        go_wp2_with fail
        go_ret
        exact ⟨rfl, below_new M1.out _⟩

theorem own : ownKnob Try.prog.godebug = none := by kernel_rfl
theorem laidOut : laidOutB Try.prog = true := by kernel_rfl
set_option maxRecDepth 100000 in
theorem lifted (os : Os) (started : os.Started) (H : Type) (enc : TypeId × Value → H) :
    ReturnsInHanded {} Try.checked os 3 .any (Rows.quotaPlaysSpec.pre6 enc Try.prog Try.f3 Rows.quotaPlaysRow.domain false) (Rows.quotaPlaysSpec.post enc Try.prog Try.f3 false true false false) := by
  refine returnsInHanded_of_change (C := Try.checked) own started (by kernel_rfl) Try.func3
    (ChangeSpec.witness6 (enc := enc) (C := Try.checked) false ⟨#[], #[.int .i64 0, .slice none 0 0], []⟩ 8 (by kernel_rfl) (by kernel_rfl) (by kernel_rfl) (by kernel_rfl)) ?_
  intro W base args ds gs before hval0 hW hcnd _
  have hval : ∀ (j : Nat) t v, Try.f3.params[j]? = some t → args[j]? = some v → Value.okWide Try.prog W .any base t v := hval0
  have hW' := hW
  obtain ⟨p, q, hA0, hV, hbef, hfz, hnd⟩ := hW
  have hA : DataW.TrodAll enc Try.prog W 0 (fun _ => true) true Try.f3.params.toList args.toList ds p := hA0
  have hAk := hA
  have hlt : ∀ x ∈ p, x.block < W.heap.size := fun x hx => hW'.lt x (by rw [hbef]; exact List.mem_append_left _ hx)
  rw [Try.params3] at hA hval
  obtain ⟨v0, vs0, d0, ds0, p0, q0, hargs, rfl, hp0, h0, r0⟩ := trodAll_cons hA
  obtain ⟨v1, vs1, d1, ds1, p1, q1, rfl, rfl, hp1, h1, r1⟩ := trodAll_cons r0
  obtain ⟨rfl, rfl, hpz⟩ := trodAll_nil r1
  obtain rfl : args = #[v0, v1] := by cases args; simp_all
  obtain ⟨rfl, rfl⟩ := trodVars_none hV
  obtain ⟨a0, rfl, _, _, w0⟩ := open_int Try.underlying3 (hval 0 3 v0 rfl rfl) h0
  obtain ⟨p1, n1, c1, K1, I1, N1, rfl, m1, H1⟩ := open_acts (hval 1 22 v1 rfl rfl) h1
  clear hA0 hval0
  refine (walk a0 w0 p1 n1 c1 K1 I1 N1 m1 W H1).mono fun e W' ⟨he, hg⟩ => ?_
  subst he
  exact ⟨_, rfl, ⟨_, _, _, [], p, [], hW', (trodAll_cons_mk (shut_bool Try.underlying4 _) trodAll_mk0), args_stay laidOut hg (by kernel_rfl) hAk hlt, rfl, hg.frame _, fun h => by cases h⟩⟩

theorem over : Rows.quotaPlaysRow.holds Try.pinned (OpenSpec.ofChange Rows.quotaPlaysSpec) :=
  OpenClaim.holds_of_wide 3 Try.f3 rfl rfl rfl rfl rfl rfl rfl ⟨rfl, rfl, rfl, rfl, rfl⟩ rfl rfl rfl rfl rfl (by kernel_rfl) Try.func3 (by kernel_rfl)
    (of_decide_eq_true (by kernel_rfl)) (by unfold Func.isWrapper; first | (rw [if_pos (by decide +kernel)]; kernel_rfl) | (rw [if_neg (by decide +kernel)]; exact ⟨rfl, rfl⟩))
    (fun os started H enc _ => lifted os started H enc)

theorem proved : Rows.QuotaPlaysSaid :=
  over
#print axioms proved
end Go.Proofs.Ytebmnnliaeollaa.quotaPlays
