/- For any root, any calls and any charge: what is charged and credited again leaves all as it was; a charge that is refused, too; behind any 60 calls; no condition. -/
import Derived.Test.YtppnobcbcjkccabRows
import Derived.ProofKit
import Derived.OpenShut
import Derived.Carry
import Derived.Test.YtppnobcbcjkccabQ9
namespace Go.Proofs.Ytppnobcbcjkccab.quotaNeutral
open Go.ChangeShapes Go.WideShapes Go.ChangeAt Go.RowKit Go.Maps
set_option linter.unusedSimpArgs false
set_option linter.unusedVariables false

set_option maxRecDepth 8000 in
set_option maxHeartbeats 4000000 in
theorem walk (a0 : Int) (w0 : (Lit.int .i64 a0).wf = true) (p1 : Option Addr) (n1 c1 : Nat) (K1 I1 N1 : Nat → Int) (m1 : n1 ≤ maxLen) (a2 : Int) (w2 : (Lit.int .i64 a2).wf = true) (a3 : Int) (w3 : (Lit.int .i64 a3).wf = true) (w : World) (H1 : IsActs w p1 n1 K1 I1 N1) :
    Calls Try.prog 7 #[.int .i64 a0, .slice p1 n1 c1, .int .i64 a2, .int .i64 a3] w fun e w' => e = .returned (.bool true) ∧ Below w.heap.size w w' := by
  have AW : Hid (∀ W : World, Calls Try.prog 9 #[] W fun e w' => e = .returned (.bool true) ∧ Below W.heap.size W w') := fun W => awake_any W
  by_cases kb : a0 < 0 ∨ 1048576 < a0
  · have NW : Hid (∀ W : World, Calls Try.prog 8 #[.int .i64 a0] W fun e w' => e = .returned (.tuple #[.pointer none, .int .i64 1]) ∧ Below W.heap.size W w') := fun W => new_bad a0 kb W
    go_enter Try.func7, Try.ntmps7
    go_wp2_with fail
    refine (NW.out _).mono ?_
    rintro e u0 ⟨rfl, hb0⟩
    have B0 : Hid (Below w.heap.size w u0) := hb0
    clear hb0
    go_wp2_with fail
    refine (AW.out _).mono ?_
    rintro e u1 ⟨rfl, hb1⟩
    have B1 : Hid (Below w.heap.size w u1) := below_then B0.out hb1
    clear hb1
    go_wp2_with fail
    go_ret
    exact ⟨rfl, B1.out⟩
  have NW : Hid (∀ W : World, Calls Try.prog 8 #[.int .i64 a0] W fun e w' => e = .returned (.tuple #[.pointer (some ⟨W.heap.size, 0, none⟩), .int .i64 0]) ∧ Own W w' W.heap.size (rootT a0)) := fun W => new_ok a0 (by omega) (by omega) W
  have GR : Hid (Good (rootT a0) a0) := root_good a0 (by omega) (by omega)
  have HA : Hid (IsActs w p1 n1 K1 I1 N1) := H1
  have DO : Hid (∀ (T : Nat → Nd), Good T a0 → ∀ (k i n : Int) (W : World), IsTree W w.heap.size T → Calls Try.prog 10 #[.pointer (some ⟨w.heap.size, 0, none⟩), .slice none 0 0, .agg #[.int .i64 k, .int .i64 i, .int .i64 n]] W fun e w' => (∃ v, e = .returned v) ∧ IsTree w' w.heap.size (doesT T k i n) ∧ W.grownBy w' (some w.heap.size)) := fun T g k i n W h => does_any w.heap.size T g.okT g.parT k i n W h
  clear H1
  have mm : (n1 : Int) ≤ 9223372036854775807 := by have : maxLen ≤ 9223372036854775807 := by decide +kernel
                                                   omega
  go_enter Try.func7, Try.ntmps7
  go_wp2_with fail
  refine (NW.out _).mono ?_
  rintro e u0 ⟨rfl, h0⟩
  have M0 : Hid (OwnG w u0 w.heap.size (rootT a0) a0) := ⟨h0, GR.out⟩
  clear h0 NW GR
  go_wp2_with fail
  go_loopw [11] (fun x W => ∃ (k : Nat) (T : Nat → Nd), k ≤ n1 ∧ k ≤ 60 ∧ x = .int .i64 k ∧ Hid (OwnG w W w.heap.size T a0)) (fun x _ => 60 - (intOf x).toNat)
  case atStart => exact ⟨0, _, by omega, by omega, rfl, M0⟩
  case round =>
    obtain ⟨k, T, hk, hk6, rfl, hM⟩ := hrel
    by_cases hlt : k < n1 ∧ k < 60
    · have hd : decide ((k : Int) < (n1 : Int)) = true := by simp; omega
      have hd2 : decide ((k : Int) < 60) = true := by simp; omega
      obtain ⟨b, o, rfl, lb, c0, c1, c2⟩ := (HA.out.below hM.out.1.2.1) k hlt.1
      generalize K1 k = a_k at c0
      generalize I1 k = a_i at c1
      generalize N1 k = a_n at c2
      go_wp2_with fail
      refine (DO.out T hM.out.2 a_k a_i a_n _ hM.out.1.1).mono ?_
      rintro e u1 ⟨⟨v, rfl⟩, h1, h2⟩
      have M1 : Hid (OwnG w u1 w.heap.size (doesT T a_k a_i a_n) a0) := hM.out.next h1 h2 (hM.out.2.does _ _ _)
      clear h1 h2 c0 c1 c2 lb
      go_wp2_with fail
      go_roundw
      case rel => exact ⟨k + 1, _, by omega, by omega, by go_num, M1⟩
      case measure => simp [intOf]; omega
    · have hM1 : Hid (OwnG w wr w.heap.size T a0) := hM
      have gT := hM.out.2
      clear hM DO HA
      obtain ⟨⟨lp, lq, lu, ll, lv⟩, hg⟩ : ∃ l, getN T a2 = l := ⟨_, rfl⟩
      obtain ⟨z, hz⟩ : ∃ z, mayN T a2 a3 = z := ⟨_, rfl⟩
      by_cases z0 : z = 0
      · subst z0
        have lvt : lv = true := by have := (may_zero hz).1; rw [hg] at this; exact this
        subst lvt
        have GT : Hid (∀ W : World, IsTree W w.heap.size T → Calls Try.prog 14 #[.pointer (some ⟨w.heap.size, 0, none⟩), .int .i64 a2] W fun e w' => e = .returned (.tuple #[.agg #[.int .i64 lp, .int .i64 lq, .int .i64 lu, .int .i64 ll, .bool true], .bool true]) ∧ Below W.heap.size W w') := fun W h => by
          have := get_any w.heap.size T a2 W h
          rw [hg] at this; exact this
        have CG : Hid (∀ W : World, IsTree W w.heap.size T → Calls Try.prog 19 #[.pointer (some ⟨w.heap.size, 0, none⟩), .int .i64 a2, .int .i64 a3] W fun e w' => e = .returned (.int .i64 0) ∧ IsTree w' w.heap.size (chargeT T a2 a3) ∧ W.grownBy w' (some w.heap.size)) := fun W h => by
          have := charge_any w.heap.size T gT.okT a2 a3 W h
          rw [hz] at this; exact this
        obtain ⟨e1, e2, e3⟩ := neutral_ok gT a2 a3 hz
        rw [hg] at e1
        have e1' : (getN (chargeT T a2 a3) a2).room = lq - lu - ll - a3 := e1
        have RM : Hid (∀ W : World, IsTree W w.heap.size (chargeT T a2 a3) → Calls Try.prog 12 #[.pointer (some ⟨w.heap.size, 0, none⟩), .int .i64 a2] W fun e w' => e = .returned (.int .i64 (lq - lu - ll - a3)) ∧ Below W.heap.size W w') := fun W h => by
          have := room_any w.heap.size _ (gT.charge a2 a3).okT a2 W h
          rw [e1'] at this; exact this
        have CR : Hid (∀ W : World, IsTree W w.heap.size (chargeT T a2 a3) → Calls Try.prog 16 #[.pointer (some ⟨w.heap.size, 0, none⟩), .int .i64 a2, .int .i64 a3] W fun e w' => e = .returned (.int .i64 0) ∧ IsTree w' w.heap.size (creditT (chargeT T a2 a3) a2 a3) ∧ W.grownBy w' (some w.heap.size)) := fun W h => by
          have := credit_any w.heap.size _ (gT.charge a2 a3).okT a2 a3 W h
          rw [e2] at this; exact this
        have m := may_zero hz
        rw [hg] at m
        have nn : 0 ≤ lq ∧ lq ≤ 1048576 ∧ 0 ≤ lu ∧ lu ≤ 1048576 ∧ 0 ≤ ll ∧ ll ≤ 1048576 := by
          have := get_ok T gT.okT a2
          rw [hg] at this; exact this
        obtain ⟨nn1, nn2, nn3, nn4, nn5, nn6⟩ := nn
        have nn7 : 0 ≤ a3 := m.2.1
        have nn8 : a3 ≤ 1048576 := by have := m.2.2; unfold Nd.room at this; simp only at this; omega
        clear m e1 e1' e2
        have GT2 : Hid (∀ W : World, IsTree W w.heap.size (creditT (chargeT T a2 a3) a2 a3) → Calls Try.prog 14 #[.pointer (some ⟨w.heap.size, 0, none⟩), .int .i64 a2] W fun e w' => e = .returned (.tuple #[.agg #[.int .i64 lp, .int .i64 lq, .int .i64 lu, .int .i64 ll, .bool true], .bool true]) ∧ Below W.heap.size W w') := fun W h => by
          have := get_any w.heap.size (creditT (chargeT T a2 a3) a2 a3) a2 W h
          rw [e3, hg] at this; exact this
        clear e3 gT hg hz
        by_cases hq : k < n1
        · have hd : decide ((k : Int) < (n1 : Int)) = true := by simp; omega
          have hd2 : decide ((k : Int) < 60) = false := by simp; omega
          go_wp2_with fail
          refine (GT.out _ hM1.out.1.1).mono ?_
          rintro e u1 ⟨rfl, hb1⟩
          have M1 : Hid (OwnG w u1 w.heap.size T a0) := hM1.out.grow hb1
          have lw : w.heap.size < u1.heap.size := M1.out.1.1.2.2
          clear hb1 hM1
          go_wp2_with fail
          refine (CG.out _ (M1.out.grow (Go.Joins.below_alloc1 _ _)).1.1).mono ?_
          rintro e u2 ⟨rfl, h1, h2⟩
          have x0 : u2.cell? ⟨u1.heap.size, 0, none⟩ = some (.int .i64 lp) := cell_grown h2 (by simp) (by omega) (by simp)
          have x1 : u2.cell? ⟨u1.heap.size, 1, none⟩ = some (.int .i64 lq) := cell_grown h2 (by simp) (by omega) (by simp)
          have x2 : u2.cell? ⟨u1.heap.size, 2, none⟩ = some (.int .i64 lu) := cell_grown h2 (by simp) (by omega) (by simp)
          have x3 : u2.cell? ⟨u1.heap.size, 3, none⟩ = some (.int .i64 ll) := cell_grown h2 (by simp) (by omega) (by simp)
          have x4 : u2.cell? ⟨u1.heap.size, 4, none⟩ = some (.bool true) := cell_grown h2 (by simp) (by omega) (by simp)
          have l2 : u1.heap.size < u2.heap.size := Nat.lt_of_lt_of_le (by simp) h2.size
          have M2 : Hid (OwnG w u2 w.heap.size (chargeT T a2 a3) a0) := (M1.out.grow (Go.Joins.below_alloc1 _ _)).next h1 h2 (M1.out.2.charge _ _)
          clear h1 h2 M1 CG
          go_wp2_with fail
          refine wp_region_noPanic ?_
          refine wp_region_held_drew (S := fun c => c.cell? ⟨u1.heap.size, 1, none⟩ = some (.int .i64 lq) ∧ c.cell? ⟨u1.heap.size, 2, none⟩ = some (.int .i64 lu) ∧ c.cell? ⟨u1.heap.size, 3, none⟩ = some (.int .i64 ll)) (by kernel_rfl) ?_ (fun hHeld => ?_)
          · exact ⟨x1, x2, x3⟩
          refine wpAnyH_take (i := 0) (oi := ⟨some 55, _, _, _, _, none⟩) (v := ?_) rfl (by kernel_rfl) (by kernel_rfl) (by kernel_rfl) (fun _ _ _ h => h) (Or.inl ⟨by rfl, ?_⟩) (by assumption) ?_
          rotate_left
          · intro w hSw; (try dsimp only at hSw); go_simp; (try with_reducible rfl)
          try simp only [Act.put, List.setIfInBounds_toArray, List.set_cons_zero, List.set_cons_succ]
          refine wpAnyH_take (i := 1) (oi := ⟨some 56, _, _, _, _, none⟩) (v := ?_) rfl (by kernel_rfl) (by kernel_rfl) (by kernel_rfl) (fun _ _ _ h => h) (Or.inl ⟨by rfl, ?_⟩) (by assumption) ?_
          rotate_left
          · intro w hSw; (try dsimp only at hSw); go_simp; (try with_reducible rfl)
          try simp only [Act.put, List.setIfInBounds_toArray, List.set_cons_zero, List.set_cons_succ]
          refine wpAnyH_take (i := 2) (oi := ⟨some 57, _, _, _, _, none⟩) (v := ?_) rfl (by kernel_rfl) (by kernel_rfl) (by kernel_rfl) (fun _ _ _ h => h) (Or.inl ⟨by rfl, ?_⟩) (by assumption) ?_
          rotate_left
          · intro w hSw; (try dsimp only at hSw); go_simp; (try with_reducible rfl)
          try simp only [Act.put, List.setIfInBounds_toArray, List.set_cons_zero, List.set_cons_succ]
          refine wpAnyH_take (i := 3) (oi := ⟨some 58, _, _, _, _, some (2, true)⟩) (v := ?_) rfl (by kernel_rfl) (by kernel_rfl) (by kernel_rfl) (fun _ _ _ h => h) (Or.inl ⟨by rfl, ?_⟩) (by assumption) ?_
          rotate_left
          · intro w hSw; (try dsimp only at hSw); go_simp; (try with_reducible rfl)
          try simp only [Act.put, List.setIfInBounds_toArray, List.set_cons_zero, List.set_cons_succ]
          refine wpAnyH_take (i := 4) (oi := ⟨some 59, _, _, _, _, some (2, true)⟩) (v := ?_) rfl (by kernel_rfl) (by kernel_rfl) (by kernel_rfl) (fun _ _ _ h => h) (Or.inl ⟨by rfl, ?_⟩) (by assumption) ?_
          rotate_left
          · intro w hSw; (try dsimp only at hSw); go_simp; (try with_reducible rfl)
          try simp only [Act.put, List.setIfInBounds_toArray, List.set_cons_zero, List.set_cons_succ]
          refine wpAnyH_take (i := 6) (oi := ⟨some 61, _, _, _, _, some (2, true)⟩) (v := ?_) rfl (by kernel_rfl) (by kernel_rfl) (by kernel_rfl) (fun _ _ _ h => h) (Or.inl ⟨by rfl, ?_⟩) (by assumption) ?_
          rotate_left
          · intro w hSw; (try dsimp only at hSw); go_simp; (try with_reducible rfl)
          try simp only [Act.put, List.setIfInBounds_toArray, List.set_cons_zero, List.set_cons_succ]
          refine wpAnyH_take (i := 7) (oi := ⟨some 62, _, _, _, _, some (2, true)⟩) (v := ?_) rfl (by kernel_rfl) (by kernel_rfl) (by kernel_rfl) (fun _ _ _ h => h) (Or.inl ⟨by rfl, ?_⟩) (by assumption) ?_
          rotate_left
          · intro w hSw; (try dsimp only at hSw); go_simp; (try with_reducible rfl)
          try simp only [Act.put, List.setIfInBounds_toArray, List.set_cons_zero, List.set_cons_succ]
          refine wpAnyH_take (i := 8) (oi := ⟨some 63, _, _, _, _, some (2, true)⟩) (v := ?_) rfl (by kernel_rfl) (by kernel_rfl) (by kernel_rfl) (fun _ _ _ h => h) (Or.inl ⟨by rfl, ?_⟩) (by assumption) ?_
          rotate_left
          · intro w hSw; (try dsimp only at hSw); go_simp; (try with_reducible rfl)
          try simp only [Act.put, List.setIfInBounds_toArray, List.set_cons_zero, List.set_cons_succ]
          refine wpAnyH_take (i := 9) (oi := ⟨some 64, _, _, _, _, some (2, true)⟩) (v := ?_) rfl (by kernel_rfl) (by kernel_rfl) (by kernel_rfl) (fun _ _ _ h => h) (Or.inl ⟨by rfl, ?_⟩) (by assumption) ?_
          rotate_left
          · intro w hSw; (try dsimp only at hSw); go_simp; (try with_reducible rfl)
          try simp only [Act.put, List.setIfInBounds_toArray, List.set_cons_zero, List.set_cons_succ]
          refine wpAnyH_take (i := 10) (oi := ⟨some 65, _, _, _, _, some (2, true)⟩) (v := ?_) rfl (by kernel_rfl) (by kernel_rfl) (by kernel_rfl) (fun _ _ _ h => h) (Or.inl ⟨by rfl, ?_⟩) (by assumption) ?_
          rotate_left
          · intro w hSw; (try dsimp only at hSw); go_simp; (try with_reducible rfl)
          try simp only [Act.put, List.setIfInBounds_toArray, List.set_cons_zero, List.set_cons_succ]
          refine wpAnyH_take (i := 11) (oi := ⟨some 66, _, _, _, _, some (2, true)⟩) (v := ?_) rfl (by kernel_rfl) (by kernel_rfl) (by kernel_rfl) (fun _ _ _ h => h) (Or.inl ⟨by rfl, ?_⟩) (by assumption) ?_
          rotate_left
          · intro w hSw; (try dsimp only at hSw); go_simp; (try with_reducible rfl)
          try simp only [Act.put, List.setIfInBounds_toArray, List.set_cons_zero, List.set_cons_succ]
          refine wpAnyH_take (i := 12) (oi := ⟨some 67, _, _, _, _, some (2, true)⟩) (v := ?_) rfl (by kernel_rfl) (by kernel_rfl) (by kernel_rfl) (fun _ _ _ h => h) (Or.inl ⟨by rfl, ?_⟩) (by assumption) ?_
          rotate_left
          · intro w hSw; (try dsimp only at hSw); go_simp; (try with_reducible rfl)
          try simp only [Act.put, List.setIfInBounds_toArray, List.set_cons_zero, List.set_cons_succ]
          refine wpAnyH_take (i := 13) (oi := ⟨some 68, _, _, _, _, some (2, true)⟩) (v := ?_) rfl (by kernel_rfl) (by kernel_rfl) (by kernel_rfl) (fun _ _ _ h => h) (Or.inl ⟨by rfl, ?_⟩) (by assumption) ?_
          rotate_left
          · intro w hSw; (try dsimp only at hSw); go_simp; (try with_reducible rfl)
          try simp only [Act.put, List.setIfInBounds_toArray, List.set_cons_zero, List.set_cons_succ]
          refine wpAnyH_take (i := 14) (oi := ⟨some 69, _, _, _, _, some (2, true)⟩) (v := ?_) rfl (by kernel_rfl) (by kernel_rfl) (by kernel_rfl) (fun _ _ _ h => h) (Or.inl ⟨by rfl, ?_⟩) (by assumption) ?_
          rotate_left
          · intro w hSw; (try dsimp only at hSw); go_simp; (try with_reducible rfl)
          try simp only [Act.put, List.setIfInBounds_toArray, List.set_cons_zero, List.set_cons_succ]
          refine wpAnyH_take (i := 15) (oi := ⟨some 70, _, _, _, _, some (2, true)⟩) (v := ?_) rfl (by kernel_rfl) (by kernel_rfl) (by kernel_rfl) (fun _ _ _ h => h) (Or.inl ⟨by rfl, ?_⟩) (by assumption) ?_
          rotate_left
          · intro w hSw; (try dsimp only at hSw); go_simp; (try with_reducible rfl)
          try simp only [Act.put, List.setIfInBounds_toArray, List.set_cons_zero, List.set_cons_succ]
          have MD : Hid (OwnG w u2.drew w.heap.size (chargeT T a2 a3) a0) := ⟨⟨M2.out.1.1.drew, below_drew M2.out.1.2.1, M2.out.1.2.2⟩, M2.out.2⟩
          have XD : Hid (u2.drew.cell? ⟨u1.heap.size, 0, none⟩ = some (.int .i64 lp) ∧ u2.drew.cell? ⟨u1.heap.size, 1, none⟩ = some (.int .i64 lq) ∧ u2.drew.cell? ⟨u1.heap.size, 2, none⟩ = some (.int .i64 lu) ∧ u2.drew.cell? ⟨u1.heap.size, 3, none⟩ = some (.int .i64 ll) ∧ u2.drew.cell? ⟨u1.heap.size, 4, none⟩ = some (.bool true) ∧ u1.heap.size < u2.drew.heap.size) := ⟨x0, x1, x2, x3, x4, l2⟩
          clear x0 x1 x2 x3 x4 l2 M2
          generalize u2.drew = U at MD XD hHeld ⊢
          refine wpAnyH_ready (rs := [5]) (by kernel_rfl) (by simp) ?_
          refine AllReadyH.cons (o := ⟨some 60, _, _, _, _, some (2, true)⟩) rfl (fun K hK => ?_) AllReadyH.nil
          go_simp
          go_wp2_with (go_at_call 12; refine (RM.out _ MD.out.1.1).mono ?_; rintro e u3 ⟨rfl, hb3⟩)
          have M3 : Hid (OwnG w u3 w.heap.size (chargeT T a2 a3) a0) := MD.out.grow hb3
          obtain ⟨y0, y1, y2, y3, y4, ly⟩ := XD.out
          have x0 : u3.cell? ⟨u1.heap.size, 0, none⟩ = some (.int .i64 lp) := (hb3.cell (p := ⟨u1.heap.size, 0, none⟩) ly).trans y0
          have x1 : u3.cell? ⟨u1.heap.size, 1, none⟩ = some (.int .i64 lq) := (hb3.cell (p := ⟨u1.heap.size, 1, none⟩) ly).trans y1
          have x2 : u3.cell? ⟨u1.heap.size, 2, none⟩ = some (.int .i64 lu) := (hb3.cell (p := ⟨u1.heap.size, 2, none⟩) ly).trans y2
          have x3 : u3.cell? ⟨u1.heap.size, 3, none⟩ = some (.int .i64 ll) := (hb3.cell (p := ⟨u1.heap.size, 3, none⟩) ly).trans y3
          have x4 : u3.cell? ⟨u1.heap.size, 4, none⟩ = some (.bool true) := (hb3.cell (p := ⟨u1.heap.size, 4, none⟩) ly).trans y4
          have l3 : u1.heap.size < u3.heap.size := Nat.lt_of_lt_of_le ly hb3.size
          clear hb3 y0 y1 y2 y3 y4 ly XD MD hHeld
          refine hK.out _ _ ⟨x1, x2, x3⟩ (fun hHeld => ?_)
          clear hK K
          try simp only [Act.put, List.setIfInBounds_toArray, List.set_cons_zero, List.set_cons_succ]
          refine wpAnyH_take (i := 16) (oi := ⟨some 71, _, _, _, _, some (2, true)⟩) (v := .bool false) rfl (by kernel_rfl) (by kernel_rfl) (by kernel_rfl) (fun _ _ _ h => h) (Or.inl ⟨by rfl, ?_⟩) (by assumption) ?_
          · intro w hSw; (try dsimp only at hSw); go_simp; (try simp); (try (simp only [IntKind.wrap_i64]; omega))
          try simp only [Act.put, List.setIfInBounds_toArray, List.set_cons_zero, List.set_cons_succ]
          refine wpAnyH_take (i := 17) (oi := ⟨some 72, _, _, _, _, some (2, true)⟩) (v := ?_) rfl (by kernel_rfl) (by kernel_rfl) (by kernel_rfl) (fun _ _ _ h => h) (Or.inl ⟨by rfl, ?_⟩) (by assumption) ?_
          rotate_left
          · intro w hSw; (try dsimp only at hSw); go_simp; (try with_reducible rfl)
          try simp only [Act.put, List.setIfInBounds_toArray, List.set_cons_zero, List.set_cons_succ]
          refine wpAnyH_take (i := 18) (oi := ⟨some 73, _, _, _, _, some (17, false)⟩) (v := ?_) rfl (by kernel_rfl) (by kernel_rfl) (by kernel_rfl) (fun _ _ _ h => h) (Or.inl ⟨by rfl, ?_⟩) (by assumption) ?_
          rotate_left
          · intro w hSw; (try dsimp only at hSw); go_simp; (try with_reducible rfl)
          try simp only [Act.put, List.setIfInBounds_toArray, List.set_cons_zero, List.set_cons_succ]
          refine wpAnyH_take (i := 19) (oi := ⟨some 74, _, _, _, _, some (17, false)⟩) (v := ?_) rfl (by kernel_rfl) (by kernel_rfl) (by kernel_rfl) (fun _ _ _ h => h) (Or.inl ⟨by rfl, ?_⟩) (by assumption) ?_
          rotate_left
          · intro w hSw; (try dsimp only at hSw); go_simp; (try with_reducible rfl)
          try simp only [Act.put, List.setIfInBounds_toArray, List.set_cons_zero, List.set_cons_succ]
          refine wpAnyH_take (i := 20) (oi := ⟨some 75, _, _, _, _, some (17, false)⟩) (v := ?_) rfl (by kernel_rfl) (by kernel_rfl) (by kernel_rfl) (fun _ _ _ h => h) (Or.inl ⟨by rfl, ?_⟩) (by assumption) ?_
          rotate_left
          · intro w hSw; (try dsimp only at hSw); go_simp; (try with_reducible rfl)
          try simp only [Act.put, List.setIfInBounds_toArray, List.set_cons_zero, List.set_cons_succ]
          refine wpAnyH_ready (rs := [21]) (by kernel_rfl) (by simp) ?_
          refine AllReadyH.cons (o := ⟨some 76, _, _, _, _, some (17, false)⟩) rfl (fun K hK => ?_) AllReadyH.nil
          go_simp
          go_wp2_with (go_at_call 16; refine (CR.out _ M3.out.1.1).mono ?_; rintro e u4 ⟨rfl, h1, h2⟩)
          have M4 : Hid (OwnG w u4 w.heap.size (creditT (chargeT T a2 a3) a2 a3) a0) := M3.out.next h1 h2 (M3.out.2.credit _ _)
          have q0 : u4.cell? ⟨u1.heap.size, 0, none⟩ = some (.int .i64 lp) := cell_grown h2 l3 (by omega) x0
          have q1 : u4.cell? ⟨u1.heap.size, 1, none⟩ = some (.int .i64 lq) := cell_grown h2 l3 (by omega) x1
          have q2 : u4.cell? ⟨u1.heap.size, 2, none⟩ = some (.int .i64 lu) := cell_grown h2 l3 (by omega) x2
          have q3 : u4.cell? ⟨u1.heap.size, 3, none⟩ = some (.int .i64 ll) := cell_grown h2 l3 (by omega) x3
          have q4 : u4.cell? ⟨u1.heap.size, 4, none⟩ = some (.bool true) := cell_grown h2 l3 (by omega) x4
          have l4 : u1.heap.size < u4.heap.size := Nat.lt_of_lt_of_le l3 h2.size
          clear h1 h2 x0 x1 x2 x3 x4 l3 M3 hHeld
          refine hK.out _ _ ⟨q1, q2, q3⟩ (fun hHeld => ?_)
          clear hK K
          try simp only [Act.put, List.setIfInBounds_toArray, List.set_cons_zero, List.set_cons_succ]
          refine wpAnyH_take (i := 22) (oi := ⟨some 77, _, _, _, _, some (17, false)⟩) (v := ?_) rfl (by kernel_rfl) (by kernel_rfl) (by kernel_rfl) (fun _ _ _ h => h) (Or.inl ⟨by rfl, ?_⟩) (by assumption) ?_
          rotate_left
          · intro w hSw; (try dsimp only at hSw); go_simp; (try with_reducible rfl)
          try simp only [Act.put, List.setIfInBounds_toArray, List.set_cons_zero, List.set_cons_succ]
          refine wpAnyH_take (i := 23) (oi := ⟨some 78, _, _, _, _, some (2, true)⟩) (v := ?_) rfl (by kernel_rfl) (by kernel_rfl) (by kernel_rfl) (fun _ _ _ h => h) (Or.inl ⟨by rfl, ?_⟩) (by assumption) ?_
          rotate_left
          · intro w hSw; (try dsimp only at hSw); go_simp; (try with_reducible rfl)
          try simp only [Act.put, List.setIfInBounds_toArray, List.set_cons_zero, List.set_cons_succ]
          refine wpAnyH_take (i := 24) (oi := ⟨some 79, _, _, _, _, none⟩) (v := ?_) rfl (by kernel_rfl) (by kernel_rfl) (by kernel_rfl) (fun _ _ _ h => h) (Or.inl ⟨by rfl, ?_⟩) (by assumption) ?_
          rotate_left
          · intro w hSw; (try dsimp only at hSw); go_simp; (try with_reducible rfl)
          try simp only [Act.put, List.setIfInBounds_toArray, List.set_cons_zero, List.set_cons_succ]
          clear hHeld
          refine wpAnyH_done (by kernel_rfl) ?_ _
          refine NoPanic.normal ?_
          go_wp2_with fail
          refine (GT2.out _ M4.out.1.1).mono ?_
          rintro e u5 ⟨rfl, hb5⟩
          have M5 : Hid (OwnG w u5 w.heap.size (creditT (chargeT T a2 a3) a2 a3) a0) := M4.out.grow hb5
          have r0 : u5.cell? ⟨u1.heap.size, 0, none⟩ = some (.int .i64 lp) := (hb5.cell (p := ⟨u1.heap.size, 0, none⟩) l4).trans q0
          have r1 : u5.cell? ⟨u1.heap.size, 1, none⟩ = some (.int .i64 lq) := (hb5.cell (p := ⟨u1.heap.size, 1, none⟩) l4).trans q1
          have r2 : u5.cell? ⟨u1.heap.size, 2, none⟩ = some (.int .i64 lu) := (hb5.cell (p := ⟨u1.heap.size, 2, none⟩) l4).trans q2
          have r3 : u5.cell? ⟨u1.heap.size, 3, none⟩ = some (.int .i64 ll) := (hb5.cell (p := ⟨u1.heap.size, 3, none⟩) l4).trans q3
          have r4 : u5.cell? ⟨u1.heap.size, 4, none⟩ = some (.bool true) := (hb5.cell (p := ⟨u1.heap.size, 4, none⟩) l4).trans q4
          have l5 : u1.heap.size < u5.heap.size := Nat.lt_of_lt_of_le l4 hb5.size
          clear hb5 M4 l4 q0 q1 q2 q3 q4
          go_wp2_with fail
          refine (AW.out _).mono ?_
          rintro e u6 ⟨rfl, hb6⟩
          have B6 : Hid (Below w.heap.size w u6) := below_then (below_new M5.out.1.2.1 _) hb6
          have s0 : u6.cell? ⟨u1.heap.size, 0, none⟩ = some (.int .i64 lp) := (hb6.cell (p := ⟨u1.heap.size, 0, none⟩) (by simp; omega)).trans ((World.cell?_alloc_lt _ _ _ (by exact l5)).trans r0)
          have s1 : u6.cell? ⟨u1.heap.size, 1, none⟩ = some (.int .i64 lq) := (hb6.cell (p := ⟨u1.heap.size, 1, none⟩) (by simp; omega)).trans ((World.cell?_alloc_lt _ _ _ (by exact l5)).trans r1)
          have s2 : u6.cell? ⟨u1.heap.size, 2, none⟩ = some (.int .i64 lu) := (hb6.cell (p := ⟨u1.heap.size, 2, none⟩) (by simp; omega)).trans ((World.cell?_alloc_lt _ _ _ (by exact l5)).trans r2)
          have s3 : u6.cell? ⟨u1.heap.size, 3, none⟩ = some (.int .i64 ll) := (hb6.cell (p := ⟨u1.heap.size, 3, none⟩) (by simp; omega)).trans ((World.cell?_alloc_lt _ _ _ (by exact l5)).trans r3)
          have s4 : u6.cell? ⟨u1.heap.size, 4, none⟩ = some (.bool true) := (hb6.cell (p := ⟨u1.heap.size, 4, none⟩) (by simp; omega)).trans ((World.cell?_alloc_lt _ _ _ (by exact l5)).trans r4)
          have t0 : u6.cell? ⟨u5.heap.size, 0, none⟩ = some (.int .i64 lp) := (hb6.cell (p := ⟨u5.heap.size, 0, none⟩) (by simp)).trans (by simp)
          have t1 : u6.cell? ⟨u5.heap.size, 1, none⟩ = some (.int .i64 lq) := (hb6.cell (p := ⟨u5.heap.size, 1, none⟩) (by simp)).trans (by simp)
          have t2 : u6.cell? ⟨u5.heap.size, 2, none⟩ = some (.int .i64 lu) := (hb6.cell (p := ⟨u5.heap.size, 2, none⟩) (by simp)).trans (by simp)
          have t3 : u6.cell? ⟨u5.heap.size, 3, none⟩ = some (.int .i64 ll) := (hb6.cell (p := ⟨u5.heap.size, 3, none⟩) (by simp)).trans (by simp)
          have t4 : u6.cell? ⟨u5.heap.size, 4, none⟩ = some (.bool true) := (hb6.cell (p := ⟨u5.heap.size, 4, none⟩) (by simp)).trans (by simp)
          clear hb6 M5 r0 r1 r2 r3 r4
          go_wp2_with fail
          go_ret
          exact ⟨rfl, B6.out⟩
        · have hd : decide ((k : Int) < (n1 : Int)) = false := by simp; omega
          go_wp2_with fail
          refine (GT.out _ hM1.out.1.1).mono ?_
          rintro e u1 ⟨rfl, hb1⟩
          have M1 : Hid (OwnG w u1 w.heap.size T a0) := hM1.out.grow hb1
          have lw : w.heap.size < u1.heap.size := M1.out.1.1.2.2
          clear hb1 hM1
          go_wp2_with fail
          refine (CG.out _ (M1.out.grow (Go.Joins.below_alloc1 _ _)).1.1).mono ?_
          rintro e u2 ⟨rfl, h1, h2⟩
          have x0 : u2.cell? ⟨u1.heap.size, 0, none⟩ = some (.int .i64 lp) := cell_grown h2 (by simp) (by omega) (by simp)
          have x1 : u2.cell? ⟨u1.heap.size, 1, none⟩ = some (.int .i64 lq) := cell_grown h2 (by simp) (by omega) (by simp)
          have x2 : u2.cell? ⟨u1.heap.size, 2, none⟩ = some (.int .i64 lu) := cell_grown h2 (by simp) (by omega) (by simp)
          have x3 : u2.cell? ⟨u1.heap.size, 3, none⟩ = some (.int .i64 ll) := cell_grown h2 (by simp) (by omega) (by simp)
          have x4 : u2.cell? ⟨u1.heap.size, 4, none⟩ = some (.bool true) := cell_grown h2 (by simp) (by omega) (by simp)
          have l2 : u1.heap.size < u2.heap.size := Nat.lt_of_lt_of_le (by simp) h2.size
          have M2 : Hid (OwnG w u2 w.heap.size (chargeT T a2 a3) a0) := (M1.out.grow (Go.Joins.below_alloc1 _ _)).next h1 h2 (M1.out.2.charge _ _)
          clear h1 h2 M1 CG
          go_wp2_with fail
          refine wp_region_noPanic ?_
          refine wp_region_held_drew (S := fun c => c.cell? ⟨u1.heap.size, 1, none⟩ = some (.int .i64 lq) ∧ c.cell? ⟨u1.heap.size, 2, none⟩ = some (.int .i64 lu) ∧ c.cell? ⟨u1.heap.size, 3, none⟩ = some (.int .i64 ll)) (by kernel_rfl) ?_ (fun hHeld => ?_)
          · exact ⟨x1, x2, x3⟩
          refine wpAnyH_take (i := 0) (oi := ⟨some 55, _, _, _, _, none⟩) (v := ?_) rfl (by kernel_rfl) (by kernel_rfl) (by kernel_rfl) (fun _ _ _ h => h) (Or.inl ⟨by rfl, ?_⟩) (by assumption) ?_
          rotate_left
          · intro w hSw; (try dsimp only at hSw); go_simp; (try with_reducible rfl)
          try simp only [Act.put, List.setIfInBounds_toArray, List.set_cons_zero, List.set_cons_succ]
          refine wpAnyH_take (i := 1) (oi := ⟨some 56, _, _, _, _, none⟩) (v := ?_) rfl (by kernel_rfl) (by kernel_rfl) (by kernel_rfl) (fun _ _ _ h => h) (Or.inl ⟨by rfl, ?_⟩) (by assumption) ?_
          rotate_left
          · intro w hSw; (try dsimp only at hSw); go_simp; (try with_reducible rfl)
          try simp only [Act.put, List.setIfInBounds_toArray, List.set_cons_zero, List.set_cons_succ]
          refine wpAnyH_take (i := 2) (oi := ⟨some 57, _, _, _, _, none⟩) (v := ?_) rfl (by kernel_rfl) (by kernel_rfl) (by kernel_rfl) (fun _ _ _ h => h) (Or.inl ⟨by rfl, ?_⟩) (by assumption) ?_
          rotate_left
          · intro w hSw; (try dsimp only at hSw); go_simp; (try with_reducible rfl)
          try simp only [Act.put, List.setIfInBounds_toArray, List.set_cons_zero, List.set_cons_succ]
          refine wpAnyH_take (i := 3) (oi := ⟨some 58, _, _, _, _, some (2, true)⟩) (v := ?_) rfl (by kernel_rfl) (by kernel_rfl) (by kernel_rfl) (fun _ _ _ h => h) (Or.inl ⟨by rfl, ?_⟩) (by assumption) ?_
          rotate_left
          · intro w hSw; (try dsimp only at hSw); go_simp; (try with_reducible rfl)
          try simp only [Act.put, List.setIfInBounds_toArray, List.set_cons_zero, List.set_cons_succ]
          refine wpAnyH_take (i := 4) (oi := ⟨some 59, _, _, _, _, some (2, true)⟩) (v := ?_) rfl (by kernel_rfl) (by kernel_rfl) (by kernel_rfl) (fun _ _ _ h => h) (Or.inl ⟨by rfl, ?_⟩) (by assumption) ?_
          rotate_left
          · intro w hSw; (try dsimp only at hSw); go_simp; (try with_reducible rfl)
          try simp only [Act.put, List.setIfInBounds_toArray, List.set_cons_zero, List.set_cons_succ]
          refine wpAnyH_take (i := 6) (oi := ⟨some 61, _, _, _, _, some (2, true)⟩) (v := ?_) rfl (by kernel_rfl) (by kernel_rfl) (by kernel_rfl) (fun _ _ _ h => h) (Or.inl ⟨by rfl, ?_⟩) (by assumption) ?_
          rotate_left
          · intro w hSw; (try dsimp only at hSw); go_simp; (try with_reducible rfl)
          try simp only [Act.put, List.setIfInBounds_toArray, List.set_cons_zero, List.set_cons_succ]
          refine wpAnyH_take (i := 7) (oi := ⟨some 62, _, _, _, _, some (2, true)⟩) (v := ?_) rfl (by kernel_rfl) (by kernel_rfl) (by kernel_rfl) (fun _ _ _ h => h) (Or.inl ⟨by rfl, ?_⟩) (by assumption) ?_
          rotate_left
          · intro w hSw; (try dsimp only at hSw); go_simp; (try with_reducible rfl)
          try simp only [Act.put, List.setIfInBounds_toArray, List.set_cons_zero, List.set_cons_succ]
          refine wpAnyH_take (i := 8) (oi := ⟨some 63, _, _, _, _, some (2, true)⟩) (v := ?_) rfl (by kernel_rfl) (by kernel_rfl) (by kernel_rfl) (fun _ _ _ h => h) (Or.inl ⟨by rfl, ?_⟩) (by assumption) ?_
          rotate_left
          · intro w hSw; (try dsimp only at hSw); go_simp; (try with_reducible rfl)
          try simp only [Act.put, List.setIfInBounds_toArray, List.set_cons_zero, List.set_cons_succ]
          refine wpAnyH_take (i := 9) (oi := ⟨some 64, _, _, _, _, some (2, true)⟩) (v := ?_) rfl (by kernel_rfl) (by kernel_rfl) (by kernel_rfl) (fun _ _ _ h => h) (Or.inl ⟨by rfl, ?_⟩) (by assumption) ?_
          rotate_left
          · intro w hSw; (try dsimp only at hSw); go_simp; (try with_reducible rfl)
          try simp only [Act.put, List.setIfInBounds_toArray, List.set_cons_zero, List.set_cons_succ]
          refine wpAnyH_take (i := 10) (oi := ⟨some 65, _, _, _, _, some (2, true)⟩) (v := ?_) rfl (by kernel_rfl) (by kernel_rfl) (by kernel_rfl) (fun _ _ _ h => h) (Or.inl ⟨by rfl, ?_⟩) (by assumption) ?_
          rotate_left
          · intro w hSw; (try dsimp only at hSw); go_simp; (try with_reducible rfl)
          try simp only [Act.put, List.setIfInBounds_toArray, List.set_cons_zero, List.set_cons_succ]
          refine wpAnyH_take (i := 11) (oi := ⟨some 66, _, _, _, _, some (2, true)⟩) (v := ?_) rfl (by kernel_rfl) (by kernel_rfl) (by kernel_rfl) (fun _ _ _ h => h) (Or.inl ⟨by rfl, ?_⟩) (by assumption) ?_
          rotate_left
          · intro w hSw; (try dsimp only at hSw); go_simp; (try with_reducible rfl)
          try simp only [Act.put, List.setIfInBounds_toArray, List.set_cons_zero, List.set_cons_succ]
          refine wpAnyH_take (i := 12) (oi := ⟨some 67, _, _, _, _, some (2, true)⟩) (v := ?_) rfl (by kernel_rfl) (by kernel_rfl) (by kernel_rfl) (fun _ _ _ h => h) (Or.inl ⟨by rfl, ?_⟩) (by assumption) ?_
          rotate_left
          · intro w hSw; (try dsimp only at hSw); go_simp; (try with_reducible rfl)
          try simp only [Act.put, List.setIfInBounds_toArray, List.set_cons_zero, List.set_cons_succ]
          refine wpAnyH_take (i := 13) (oi := ⟨some 68, _, _, _, _, some (2, true)⟩) (v := ?_) rfl (by kernel_rfl) (by kernel_rfl) (by kernel_rfl) (fun _ _ _ h => h) (Or.inl ⟨by rfl, ?_⟩) (by assumption) ?_
          rotate_left
          · intro w hSw; (try dsimp only at hSw); go_simp; (try with_reducible rfl)
          try simp only [Act.put, List.setIfInBounds_toArray, List.set_cons_zero, List.set_cons_succ]
          refine wpAnyH_take (i := 14) (oi := ⟨some 69, _, _, _, _, some (2, true)⟩) (v := ?_) rfl (by kernel_rfl) (by kernel_rfl) (by kernel_rfl) (fun _ _ _ h => h) (Or.inl ⟨by rfl, ?_⟩) (by assumption) ?_
          rotate_left
          · intro w hSw; (try dsimp only at hSw); go_simp; (try with_reducible rfl)
          try simp only [Act.put, List.setIfInBounds_toArray, List.set_cons_zero, List.set_cons_succ]
          refine wpAnyH_take (i := 15) (oi := ⟨some 70, _, _, _, _, some (2, true)⟩) (v := ?_) rfl (by kernel_rfl) (by kernel_rfl) (by kernel_rfl) (fun _ _ _ h => h) (Or.inl ⟨by rfl, ?_⟩) (by assumption) ?_
          rotate_left
          · intro w hSw; (try dsimp only at hSw); go_simp; (try with_reducible rfl)
          try simp only [Act.put, List.setIfInBounds_toArray, List.set_cons_zero, List.set_cons_succ]
          have MD : Hid (OwnG w u2.drew w.heap.size (chargeT T a2 a3) a0) := ⟨⟨M2.out.1.1.drew, below_drew M2.out.1.2.1, M2.out.1.2.2⟩, M2.out.2⟩
          have XD : Hid (u2.drew.cell? ⟨u1.heap.size, 0, none⟩ = some (.int .i64 lp) ∧ u2.drew.cell? ⟨u1.heap.size, 1, none⟩ = some (.int .i64 lq) ∧ u2.drew.cell? ⟨u1.heap.size, 2, none⟩ = some (.int .i64 lu) ∧ u2.drew.cell? ⟨u1.heap.size, 3, none⟩ = some (.int .i64 ll) ∧ u2.drew.cell? ⟨u1.heap.size, 4, none⟩ = some (.bool true) ∧ u1.heap.size < u2.drew.heap.size) := ⟨x0, x1, x2, x3, x4, l2⟩
          clear x0 x1 x2 x3 x4 l2 M2
          generalize u2.drew = U at MD XD hHeld ⊢
          refine wpAnyH_ready (rs := [5]) (by kernel_rfl) (by simp) ?_
          refine AllReadyH.cons (o := ⟨some 60, _, _, _, _, some (2, true)⟩) rfl (fun K hK => ?_) AllReadyH.nil
          go_simp
          go_wp2_with (go_at_call 12; refine (RM.out _ MD.out.1.1).mono ?_; rintro e u3 ⟨rfl, hb3⟩)
          have M3 : Hid (OwnG w u3 w.heap.size (chargeT T a2 a3) a0) := MD.out.grow hb3
          obtain ⟨y0, y1, y2, y3, y4, ly⟩ := XD.out
          have x0 : u3.cell? ⟨u1.heap.size, 0, none⟩ = some (.int .i64 lp) := (hb3.cell (p := ⟨u1.heap.size, 0, none⟩) ly).trans y0
          have x1 : u3.cell? ⟨u1.heap.size, 1, none⟩ = some (.int .i64 lq) := (hb3.cell (p := ⟨u1.heap.size, 1, none⟩) ly).trans y1
          have x2 : u3.cell? ⟨u1.heap.size, 2, none⟩ = some (.int .i64 lu) := (hb3.cell (p := ⟨u1.heap.size, 2, none⟩) ly).trans y2
          have x3 : u3.cell? ⟨u1.heap.size, 3, none⟩ = some (.int .i64 ll) := (hb3.cell (p := ⟨u1.heap.size, 3, none⟩) ly).trans y3
          have x4 : u3.cell? ⟨u1.heap.size, 4, none⟩ = some (.bool true) := (hb3.cell (p := ⟨u1.heap.size, 4, none⟩) ly).trans y4
          have l3 : u1.heap.size < u3.heap.size := Nat.lt_of_lt_of_le ly hb3.size
          clear hb3 y0 y1 y2 y3 y4 ly XD MD hHeld
          refine hK.out _ _ ⟨x1, x2, x3⟩ (fun hHeld => ?_)
          clear hK K
          try simp only [Act.put, List.setIfInBounds_toArray, List.set_cons_zero, List.set_cons_succ]
          refine wpAnyH_take (i := 16) (oi := ⟨some 71, _, _, _, _, some (2, true)⟩) (v := .bool false) rfl (by kernel_rfl) (by kernel_rfl) (by kernel_rfl) (fun _ _ _ h => h) (Or.inl ⟨by rfl, ?_⟩) (by assumption) ?_
          · intro w hSw; (try dsimp only at hSw); go_simp; (try simp); (try (simp only [IntKind.wrap_i64]; omega))
          try simp only [Act.put, List.setIfInBounds_toArray, List.set_cons_zero, List.set_cons_succ]
          refine wpAnyH_take (i := 17) (oi := ⟨some 72, _, _, _, _, some (2, true)⟩) (v := ?_) rfl (by kernel_rfl) (by kernel_rfl) (by kernel_rfl) (fun _ _ _ h => h) (Or.inl ⟨by rfl, ?_⟩) (by assumption) ?_
          rotate_left
          · intro w hSw; (try dsimp only at hSw); go_simp; (try with_reducible rfl)
          try simp only [Act.put, List.setIfInBounds_toArray, List.set_cons_zero, List.set_cons_succ]
          refine wpAnyH_take (i := 18) (oi := ⟨some 73, _, _, _, _, some (17, false)⟩) (v := ?_) rfl (by kernel_rfl) (by kernel_rfl) (by kernel_rfl) (fun _ _ _ h => h) (Or.inl ⟨by rfl, ?_⟩) (by assumption) ?_
          rotate_left
          · intro w hSw; (try dsimp only at hSw); go_simp; (try with_reducible rfl)
          try simp only [Act.put, List.setIfInBounds_toArray, List.set_cons_zero, List.set_cons_succ]
          refine wpAnyH_take (i := 19) (oi := ⟨some 74, _, _, _, _, some (17, false)⟩) (v := ?_) rfl (by kernel_rfl) (by kernel_rfl) (by kernel_rfl) (fun _ _ _ h => h) (Or.inl ⟨by rfl, ?_⟩) (by assumption) ?_
          rotate_left
          · intro w hSw; (try dsimp only at hSw); go_simp; (try with_reducible rfl)
          try simp only [Act.put, List.setIfInBounds_toArray, List.set_cons_zero, List.set_cons_succ]
          refine wpAnyH_take (i := 20) (oi := ⟨some 75, _, _, _, _, some (17, false)⟩) (v := ?_) rfl (by kernel_rfl) (by kernel_rfl) (by kernel_rfl) (fun _ _ _ h => h) (Or.inl ⟨by rfl, ?_⟩) (by assumption) ?_
          rotate_left
          · intro w hSw; (try dsimp only at hSw); go_simp; (try with_reducible rfl)
          try simp only [Act.put, List.setIfInBounds_toArray, List.set_cons_zero, List.set_cons_succ]
          refine wpAnyH_ready (rs := [21]) (by kernel_rfl) (by simp) ?_
          refine AllReadyH.cons (o := ⟨some 76, _, _, _, _, some (17, false)⟩) rfl (fun K hK => ?_) AllReadyH.nil
          go_simp
          go_wp2_with (go_at_call 16; refine (CR.out _ M3.out.1.1).mono ?_; rintro e u4 ⟨rfl, h1, h2⟩)
          have M4 : Hid (OwnG w u4 w.heap.size (creditT (chargeT T a2 a3) a2 a3) a0) := M3.out.next h1 h2 (M3.out.2.credit _ _)
          have q0 : u4.cell? ⟨u1.heap.size, 0, none⟩ = some (.int .i64 lp) := cell_grown h2 l3 (by omega) x0
          have q1 : u4.cell? ⟨u1.heap.size, 1, none⟩ = some (.int .i64 lq) := cell_grown h2 l3 (by omega) x1
          have q2 : u4.cell? ⟨u1.heap.size, 2, none⟩ = some (.int .i64 lu) := cell_grown h2 l3 (by omega) x2
          have q3 : u4.cell? ⟨u1.heap.size, 3, none⟩ = some (.int .i64 ll) := cell_grown h2 l3 (by omega) x3
          have q4 : u4.cell? ⟨u1.heap.size, 4, none⟩ = some (.bool true) := cell_grown h2 l3 (by omega) x4
          have l4 : u1.heap.size < u4.heap.size := Nat.lt_of_lt_of_le l3 h2.size
          clear h1 h2 x0 x1 x2 x3 x4 l3 M3 hHeld
          refine hK.out _ _ ⟨q1, q2, q3⟩ (fun hHeld => ?_)
          clear hK K
          try simp only [Act.put, List.setIfInBounds_toArray, List.set_cons_zero, List.set_cons_succ]
          refine wpAnyH_take (i := 22) (oi := ⟨some 77, _, _, _, _, some (17, false)⟩) (v := ?_) rfl (by kernel_rfl) (by kernel_rfl) (by kernel_rfl) (fun _ _ _ h => h) (Or.inl ⟨by rfl, ?_⟩) (by assumption) ?_
          rotate_left
          · intro w hSw; (try dsimp only at hSw); go_simp; (try with_reducible rfl)
          try simp only [Act.put, List.setIfInBounds_toArray, List.set_cons_zero, List.set_cons_succ]
          refine wpAnyH_take (i := 23) (oi := ⟨some 78, _, _, _, _, some (2, true)⟩) (v := ?_) rfl (by kernel_rfl) (by kernel_rfl) (by kernel_rfl) (fun _ _ _ h => h) (Or.inl ⟨by rfl, ?_⟩) (by assumption) ?_
          rotate_left
          · intro w hSw; (try dsimp only at hSw); go_simp; (try with_reducible rfl)
          try simp only [Act.put, List.setIfInBounds_toArray, List.set_cons_zero, List.set_cons_succ]
          refine wpAnyH_take (i := 24) (oi := ⟨some 79, _, _, _, _, none⟩) (v := ?_) rfl (by kernel_rfl) (by kernel_rfl) (by kernel_rfl) (fun _ _ _ h => h) (Or.inl ⟨by rfl, ?_⟩) (by assumption) ?_
          rotate_left
          · intro w hSw; (try dsimp only at hSw); go_simp; (try with_reducible rfl)
          try simp only [Act.put, List.setIfInBounds_toArray, List.set_cons_zero, List.set_cons_succ]
          clear hHeld
          refine wpAnyH_done (by kernel_rfl) ?_ _
          refine NoPanic.normal ?_
          go_wp2_with fail
          refine (GT2.out _ M4.out.1.1).mono ?_
          rintro e u5 ⟨rfl, hb5⟩
          have M5 : Hid (OwnG w u5 w.heap.size (creditT (chargeT T a2 a3) a2 a3) a0) := M4.out.grow hb5
          have r0 : u5.cell? ⟨u1.heap.size, 0, none⟩ = some (.int .i64 lp) := (hb5.cell (p := ⟨u1.heap.size, 0, none⟩) l4).trans q0
          have r1 : u5.cell? ⟨u1.heap.size, 1, none⟩ = some (.int .i64 lq) := (hb5.cell (p := ⟨u1.heap.size, 1, none⟩) l4).trans q1
          have r2 : u5.cell? ⟨u1.heap.size, 2, none⟩ = some (.int .i64 lu) := (hb5.cell (p := ⟨u1.heap.size, 2, none⟩) l4).trans q2
          have r3 : u5.cell? ⟨u1.heap.size, 3, none⟩ = some (.int .i64 ll) := (hb5.cell (p := ⟨u1.heap.size, 3, none⟩) l4).trans q3
          have r4 : u5.cell? ⟨u1.heap.size, 4, none⟩ = some (.bool true) := (hb5.cell (p := ⟨u1.heap.size, 4, none⟩) l4).trans q4
          have l5 : u1.heap.size < u5.heap.size := Nat.lt_of_lt_of_le l4 hb5.size
          clear hb5 M4 l4 q0 q1 q2 q3 q4
          go_wp2_with fail
          refine (AW.out _).mono ?_
          rintro e u6 ⟨rfl, hb6⟩
          have B6 : Hid (Below w.heap.size w u6) := below_then (below_new M5.out.1.2.1 _) hb6
          have s0 : u6.cell? ⟨u1.heap.size, 0, none⟩ = some (.int .i64 lp) := (hb6.cell (p := ⟨u1.heap.size, 0, none⟩) (by simp; omega)).trans ((World.cell?_alloc_lt _ _ _ (by exact l5)).trans r0)
          have s1 : u6.cell? ⟨u1.heap.size, 1, none⟩ = some (.int .i64 lq) := (hb6.cell (p := ⟨u1.heap.size, 1, none⟩) (by simp; omega)).trans ((World.cell?_alloc_lt _ _ _ (by exact l5)).trans r1)
          have s2 : u6.cell? ⟨u1.heap.size, 2, none⟩ = some (.int .i64 lu) := (hb6.cell (p := ⟨u1.heap.size, 2, none⟩) (by simp; omega)).trans ((World.cell?_alloc_lt _ _ _ (by exact l5)).trans r2)
          have s3 : u6.cell? ⟨u1.heap.size, 3, none⟩ = some (.int .i64 ll) := (hb6.cell (p := ⟨u1.heap.size, 3, none⟩) (by simp; omega)).trans ((World.cell?_alloc_lt _ _ _ (by exact l5)).trans r3)
          have s4 : u6.cell? ⟨u1.heap.size, 4, none⟩ = some (.bool true) := (hb6.cell (p := ⟨u1.heap.size, 4, none⟩) (by simp; omega)).trans ((World.cell?_alloc_lt _ _ _ (by exact l5)).trans r4)
          have t0 : u6.cell? ⟨u5.heap.size, 0, none⟩ = some (.int .i64 lp) := (hb6.cell (p := ⟨u5.heap.size, 0, none⟩) (by simp)).trans (by simp)
          have t1 : u6.cell? ⟨u5.heap.size, 1, none⟩ = some (.int .i64 lq) := (hb6.cell (p := ⟨u5.heap.size, 1, none⟩) (by simp)).trans (by simp)
          have t2 : u6.cell? ⟨u5.heap.size, 2, none⟩ = some (.int .i64 lu) := (hb6.cell (p := ⟨u5.heap.size, 2, none⟩) (by simp)).trans (by simp)
          have t3 : u6.cell? ⟨u5.heap.size, 3, none⟩ = some (.int .i64 ll) := (hb6.cell (p := ⟨u5.heap.size, 3, none⟩) (by simp)).trans (by simp)
          have t4 : u6.cell? ⟨u5.heap.size, 4, none⟩ = some (.bool true) := (hb6.cell (p := ⟨u5.heap.size, 4, none⟩) (by simp)).trans (by simp)
          clear hb6 M5 r0 r1 r2 r3 r4
          go_wp2_with fail
          go_ret
          exact ⟨rfl, B6.out⟩
      cases lv
      · have z5 : z = 5 := by rw [← hz]; unfold mayN; rw [hg, if_pos rfl]
        subst z5
        have GT : Hid (∀ W : World, IsTree W w.heap.size T → Calls Try.prog 14 #[.pointer (some ⟨w.heap.size, 0, none⟩), .int .i64 a2] W fun e w' => e = .returned (.tuple #[.agg #[.int .i64 lp, .int .i64 lq, .int .i64 lu, .int .i64 ll, .bool false], .bool false]) ∧ Below W.heap.size W w') := fun W h => by
          have := get_any w.heap.size T a2 W h
          rw [hg] at this; exact this
        have CG : Hid (∀ W : World, IsTree W w.heap.size T → Calls Try.prog 19 #[.pointer (some ⟨w.heap.size, 0, none⟩), .int .i64 a2, .int .i64 a3] W fun e w' => e = .returned (.int .i64 5) ∧ IsTree w' w.heap.size (chargeT T a2 a3) ∧ W.grownBy w' (some w.heap.size)) := fun W h => by
          have := charge_any w.heap.size T gT.okT a2 a3 W h
          rw [hz] at this; exact this
        have e3 : chargeT T a2 a3 = T := by unfold chargeT; rw [if_neg (by rw [hz]; decide)]
        have GT2 : Hid (∀ W : World, IsTree W w.heap.size (chargeT T a2 a3) → Calls Try.prog 14 #[.pointer (some ⟨w.heap.size, 0, none⟩), .int .i64 a2] W fun e w' => e = .returned (.tuple #[.agg #[.int .i64 lp, .int .i64 lq, .int .i64 lu, .int .i64 ll, .bool false], .bool false]) ∧ Below W.heap.size W w') := fun W h => by
          have := get_any w.heap.size (chargeT T a2 a3) a2 W h
          rw [e3, hg] at this; exact this
        clear e3 gT hg hz
        by_cases hq : k < n1
        · have hd : decide ((k : Int) < (n1 : Int)) = true := by simp; omega
          have hd2 : decide ((k : Int) < 60) = false := by simp; omega
          go_wp2_with fail
          refine (GT.out _ hM1.out.1.1).mono ?_
          rintro e u1 ⟨rfl, hb1⟩
          have M1 : Hid (OwnG w u1 w.heap.size T a0) := hM1.out.grow hb1
          have lw : w.heap.size < u1.heap.size := M1.out.1.1.2.2
          clear hb1 hM1
          go_wp2_with fail
          refine (CG.out _ (M1.out.grow (Go.Joins.below_alloc1 _ _)).1.1).mono ?_
          rintro e u2 ⟨rfl, h1, h2⟩
          have x0 : u2.cell? ⟨u1.heap.size, 0, none⟩ = some (.int .i64 lp) := cell_grown h2 (by simp) (by omega) (by simp)
          have x1 : u2.cell? ⟨u1.heap.size, 1, none⟩ = some (.int .i64 lq) := cell_grown h2 (by simp) (by omega) (by simp)
          have x2 : u2.cell? ⟨u1.heap.size, 2, none⟩ = some (.int .i64 lu) := cell_grown h2 (by simp) (by omega) (by simp)
          have x3 : u2.cell? ⟨u1.heap.size, 3, none⟩ = some (.int .i64 ll) := cell_grown h2 (by simp) (by omega) (by simp)
          have x4 : u2.cell? ⟨u1.heap.size, 4, none⟩ = some (.bool false) := cell_grown h2 (by simp) (by omega) (by simp)
          have l2 : u1.heap.size < u2.heap.size := Nat.lt_of_lt_of_le (by simp) h2.size
          have M2 : Hid (OwnG w u2 w.heap.size (chargeT T a2 a3) a0) := (M1.out.grow (Go.Joins.below_alloc1 _ _)).next h1 h2 (M1.out.2.charge _ _)
          clear h1 h2 M1 CG
          go_wp2_with fail
          refine wp_region_noPanic ?_
          refine wp_region_held_drew (S := fun _ => True) (by kernel_rfl) trivial (fun hHeld => ?_)
          refine wpAnyH_take (i := 0) (oi := ⟨some 55, _, _, _, _, none⟩) (v := ?_) rfl (by kernel_rfl) (by kernel_rfl) (by kernel_rfl) (fun _ _ _ h => h) (Or.inl ⟨by rfl, ?_⟩) (by assumption) ?_
          rotate_left
          · intro w hSw; (try dsimp only at hSw); go_simp; (try with_reducible rfl)
          try simp only [Act.put, List.setIfInBounds_toArray, List.set_cons_zero, List.set_cons_succ]
          refine wpAnyH_take (i := 1) (oi := ⟨some 56, _, _, _, _, none⟩) (v := ?_) rfl (by kernel_rfl) (by kernel_rfl) (by kernel_rfl) (fun _ _ _ h => h) (Or.inl ⟨by rfl, ?_⟩) (by assumption) ?_
          rotate_left
          · intro w hSw; (try dsimp only at hSw); go_simp; (try with_reducible rfl)
          try simp only [Act.put, List.setIfInBounds_toArray, List.set_cons_zero, List.set_cons_succ]
          refine wpAnyH_take (i := 2) (oi := ⟨some 57, _, _, _, _, none⟩) (v := ?_) rfl (by kernel_rfl) (by kernel_rfl) (by kernel_rfl) (fun _ _ _ h => h) (Or.inl ⟨by rfl, ?_⟩) (by assumption) ?_
          rotate_left
          · intro w hSw; (try dsimp only at hSw); go_simp; (try with_reducible rfl)
          try simp only [Act.put, List.setIfInBounds_toArray, List.set_cons_zero, List.set_cons_succ]
          refine wpAnyH_take (i := 3) (oi := ⟨some 58, _, _, _, _, some (2, true)⟩) (v := undef) rfl (by kernel_rfl) (by kernel_rfl) (by kernel_rfl) (fun _ _ _ h => h) (Or.inr ⟨by rfl, rfl⟩) (by assumption) ?_
          try simp only [Act.put, List.setIfInBounds_toArray, List.set_cons_zero, List.set_cons_succ]
          refine wpAnyH_take (i := 4) (oi := ⟨some 59, _, _, _, _, some (2, true)⟩) (v := undef) rfl (by kernel_rfl) (by kernel_rfl) (by kernel_rfl) (fun _ _ _ h => h) (Or.inr ⟨by rfl, rfl⟩) (by assumption) ?_
          try simp only [Act.put, List.setIfInBounds_toArray, List.set_cons_zero, List.set_cons_succ]
          refine wpAnyH_take (i := 5) (oi := ⟨some 60, _, _, _, _, some (2, true)⟩) (v := undef) rfl (by kernel_rfl) (by kernel_rfl) (by kernel_rfl) (fun _ _ _ h => h) (Or.inr ⟨by rfl, rfl⟩) (by assumption) ?_
          try simp only [Act.put, List.setIfInBounds_toArray, List.set_cons_zero, List.set_cons_succ]
          refine wpAnyH_take (i := 6) (oi := ⟨some 61, _, _, _, _, some (2, true)⟩) (v := undef) rfl (by kernel_rfl) (by kernel_rfl) (by kernel_rfl) (fun _ _ _ h => h) (Or.inr ⟨by rfl, rfl⟩) (by assumption) ?_
          try simp only [Act.put, List.setIfInBounds_toArray, List.set_cons_zero, List.set_cons_succ]
          refine wpAnyH_take (i := 7) (oi := ⟨some 62, _, _, _, _, some (2, true)⟩) (v := undef) rfl (by kernel_rfl) (by kernel_rfl) (by kernel_rfl) (fun _ _ _ h => h) (Or.inr ⟨by rfl, rfl⟩) (by assumption) ?_
          try simp only [Act.put, List.setIfInBounds_toArray, List.set_cons_zero, List.set_cons_succ]
          refine wpAnyH_take (i := 8) (oi := ⟨some 63, _, _, _, _, some (2, true)⟩) (v := undef) rfl (by kernel_rfl) (by kernel_rfl) (by kernel_rfl) (fun _ _ _ h => h) (Or.inr ⟨by rfl, rfl⟩) (by assumption) ?_
          try simp only [Act.put, List.setIfInBounds_toArray, List.set_cons_zero, List.set_cons_succ]
          refine wpAnyH_take (i := 9) (oi := ⟨some 64, _, _, _, _, some (2, true)⟩) (v := undef) rfl (by kernel_rfl) (by kernel_rfl) (by kernel_rfl) (fun _ _ _ h => h) (Or.inr ⟨by rfl, rfl⟩) (by assumption) ?_
          try simp only [Act.put, List.setIfInBounds_toArray, List.set_cons_zero, List.set_cons_succ]
          refine wpAnyH_take (i := 10) (oi := ⟨some 65, _, _, _, _, some (2, true)⟩) (v := undef) rfl (by kernel_rfl) (by kernel_rfl) (by kernel_rfl) (fun _ _ _ h => h) (Or.inr ⟨by rfl, rfl⟩) (by assumption) ?_
          try simp only [Act.put, List.setIfInBounds_toArray, List.set_cons_zero, List.set_cons_succ]
          refine wpAnyH_take (i := 11) (oi := ⟨some 66, _, _, _, _, some (2, true)⟩) (v := undef) rfl (by kernel_rfl) (by kernel_rfl) (by kernel_rfl) (fun _ _ _ h => h) (Or.inr ⟨by rfl, rfl⟩) (by assumption) ?_
          try simp only [Act.put, List.setIfInBounds_toArray, List.set_cons_zero, List.set_cons_succ]
          refine wpAnyH_take (i := 12) (oi := ⟨some 67, _, _, _, _, some (2, true)⟩) (v := undef) rfl (by kernel_rfl) (by kernel_rfl) (by kernel_rfl) (fun _ _ _ h => h) (Or.inr ⟨by rfl, rfl⟩) (by assumption) ?_
          try simp only [Act.put, List.setIfInBounds_toArray, List.set_cons_zero, List.set_cons_succ]
          refine wpAnyH_take (i := 13) (oi := ⟨some 68, _, _, _, _, some (2, true)⟩) (v := undef) rfl (by kernel_rfl) (by kernel_rfl) (by kernel_rfl) (fun _ _ _ h => h) (Or.inr ⟨by rfl, rfl⟩) (by assumption) ?_
          try simp only [Act.put, List.setIfInBounds_toArray, List.set_cons_zero, List.set_cons_succ]
          refine wpAnyH_take (i := 14) (oi := ⟨some 69, _, _, _, _, some (2, true)⟩) (v := undef) rfl (by kernel_rfl) (by kernel_rfl) (by kernel_rfl) (fun _ _ _ h => h) (Or.inr ⟨by rfl, rfl⟩) (by assumption) ?_
          try simp only [Act.put, List.setIfInBounds_toArray, List.set_cons_zero, List.set_cons_succ]
          refine wpAnyH_take (i := 15) (oi := ⟨some 70, _, _, _, _, some (2, true)⟩) (v := undef) rfl (by kernel_rfl) (by kernel_rfl) (by kernel_rfl) (fun _ _ _ h => h) (Or.inr ⟨by rfl, rfl⟩) (by assumption) ?_
          try simp only [Act.put, List.setIfInBounds_toArray, List.set_cons_zero, List.set_cons_succ]
          refine wpAnyH_take (i := 16) (oi := ⟨some 71, _, _, _, _, some (2, true)⟩) (v := undef) rfl (by kernel_rfl) (by kernel_rfl) (by kernel_rfl) (fun _ _ _ h => h) (Or.inr ⟨by rfl, rfl⟩) (by assumption) ?_
          try simp only [Act.put, List.setIfInBounds_toArray, List.set_cons_zero, List.set_cons_succ]
          refine wpAnyH_take (i := 17) (oi := ⟨some 72, _, _, _, _, some (2, true)⟩) (v := undef) rfl (by kernel_rfl) (by kernel_rfl) (by kernel_rfl) (fun _ _ _ h => h) (Or.inr ⟨by rfl, rfl⟩) (by assumption) ?_
          try simp only [Act.put, List.setIfInBounds_toArray, List.set_cons_zero, List.set_cons_succ]
          refine wpAnyH_take (i := 18) (oi := ⟨some 73, _, _, _, _, some (17, false)⟩) (v := undef) rfl (by kernel_rfl) (by kernel_rfl) (by kernel_rfl) (fun _ _ _ h => h) (Or.inr ⟨by rfl, rfl⟩) (by assumption) ?_
          try simp only [Act.put, List.setIfInBounds_toArray, List.set_cons_zero, List.set_cons_succ]
          refine wpAnyH_take (i := 19) (oi := ⟨some 74, _, _, _, _, some (17, false)⟩) (v := undef) rfl (by kernel_rfl) (by kernel_rfl) (by kernel_rfl) (fun _ _ _ h => h) (Or.inr ⟨by rfl, rfl⟩) (by assumption) ?_
          try simp only [Act.put, List.setIfInBounds_toArray, List.set_cons_zero, List.set_cons_succ]
          refine wpAnyH_take (i := 20) (oi := ⟨some 75, _, _, _, _, some (17, false)⟩) (v := undef) rfl (by kernel_rfl) (by kernel_rfl) (by kernel_rfl) (fun _ _ _ h => h) (Or.inr ⟨by rfl, rfl⟩) (by assumption) ?_
          try simp only [Act.put, List.setIfInBounds_toArray, List.set_cons_zero, List.set_cons_succ]
          refine wpAnyH_take (i := 21) (oi := ⟨some 76, _, _, _, _, some (17, false)⟩) (v := undef) rfl (by kernel_rfl) (by kernel_rfl) (by kernel_rfl) (fun _ _ _ h => h) (Or.inr ⟨by rfl, rfl⟩) (by assumption) ?_
          try simp only [Act.put, List.setIfInBounds_toArray, List.set_cons_zero, List.set_cons_succ]
          refine wpAnyH_take (i := 22) (oi := ⟨some 77, _, _, _, _, some (17, false)⟩) (v := undef) rfl (by kernel_rfl) (by kernel_rfl) (by kernel_rfl) (fun _ _ _ h => h) (Or.inr ⟨by rfl, rfl⟩) (by assumption) ?_
          try simp only [Act.put, List.setIfInBounds_toArray, List.set_cons_zero, List.set_cons_succ]
          refine wpAnyH_take (i := 23) (oi := ⟨some 78, _, _, _, _, some (2, true)⟩) (v := undef) rfl (by kernel_rfl) (by kernel_rfl) (by kernel_rfl) (fun _ _ _ h => h) (Or.inr ⟨by rfl, rfl⟩) (by assumption) ?_
          try simp only [Act.put, List.setIfInBounds_toArray, List.set_cons_zero, List.set_cons_succ]
          refine wpAnyH_take (i := 24) (oi := ⟨some 79, _, _, _, _, none⟩) (v := ?_) rfl (by kernel_rfl) (by kernel_rfl) (by kernel_rfl) (fun _ _ _ h => h) (Or.inl ⟨by rfl, ?_⟩) (by assumption) ?_
          rotate_left
          · intro w hSw; (try dsimp only at hSw); go_simp; (try with_reducible rfl)
          try simp only [Act.put, List.setIfInBounds_toArray, List.set_cons_zero, List.set_cons_succ]
          clear hHeld
          refine wpAnyH_done (by kernel_rfl) ?_ _
          refine NoPanic.normal ?_
          have MD : Hid (OwnG w u2.drew w.heap.size (chargeT T a2 a3) a0) := ⟨⟨M2.out.1.1.drew, below_drew M2.out.1.2.1, M2.out.1.2.2⟩, M2.out.2⟩
          have q0 : u2.drew.cell? ⟨u1.heap.size, 0, none⟩ = some (.int .i64 lp) := x0
          have q1 : u2.drew.cell? ⟨u1.heap.size, 1, none⟩ = some (.int .i64 lq) := x1
          have q2 : u2.drew.cell? ⟨u1.heap.size, 2, none⟩ = some (.int .i64 lu) := x2
          have q3 : u2.drew.cell? ⟨u1.heap.size, 3, none⟩ = some (.int .i64 ll) := x3
          have q4 : u2.drew.cell? ⟨u1.heap.size, 4, none⟩ = some (.bool false) := x4
          have lD : u1.heap.size < u2.drew.heap.size := l2
          clear x0 x1 x2 x3 x4 l2 M2
          generalize u2.drew = U at MD q0 q1 q2 q3 q4 lD ⊢
          go_wp2_with fail
          refine (GT2.out _ MD.out.1.1).mono ?_
          rintro e u5 ⟨rfl, hb5⟩
          have M5 : Hid (OwnG w u5 w.heap.size (chargeT T a2 a3) a0) := MD.out.grow hb5
          have r0 : u5.cell? ⟨u1.heap.size, 0, none⟩ = some (.int .i64 lp) := (hb5.cell (p := ⟨u1.heap.size, 0, none⟩) lD).trans q0
          have r1 : u5.cell? ⟨u1.heap.size, 1, none⟩ = some (.int .i64 lq) := (hb5.cell (p := ⟨u1.heap.size, 1, none⟩) lD).trans q1
          have r2 : u5.cell? ⟨u1.heap.size, 2, none⟩ = some (.int .i64 lu) := (hb5.cell (p := ⟨u1.heap.size, 2, none⟩) lD).trans q2
          have r3 : u5.cell? ⟨u1.heap.size, 3, none⟩ = some (.int .i64 ll) := (hb5.cell (p := ⟨u1.heap.size, 3, none⟩) lD).trans q3
          have r4 : u5.cell? ⟨u1.heap.size, 4, none⟩ = some (.bool false) := (hb5.cell (p := ⟨u1.heap.size, 4, none⟩) lD).trans q4
          have l5 : u1.heap.size < u5.heap.size := Nat.lt_of_lt_of_le lD hb5.size
          clear hb5 MD lD q0 q1 q2 q3 q4
          go_wp2_with fail
          refine (AW.out _).mono ?_
          rintro e u6 ⟨rfl, hb6⟩
          have B6 : Hid (Below w.heap.size w u6) := below_then (below_new M5.out.1.2.1 _) hb6
          have s0 : u6.cell? ⟨u1.heap.size, 0, none⟩ = some (.int .i64 lp) := (hb6.cell (p := ⟨u1.heap.size, 0, none⟩) (by simp; omega)).trans ((World.cell?_alloc_lt _ _ _ (by exact l5)).trans r0)
          have s1 : u6.cell? ⟨u1.heap.size, 1, none⟩ = some (.int .i64 lq) := (hb6.cell (p := ⟨u1.heap.size, 1, none⟩) (by simp; omega)).trans ((World.cell?_alloc_lt _ _ _ (by exact l5)).trans r1)
          have s2 : u6.cell? ⟨u1.heap.size, 2, none⟩ = some (.int .i64 lu) := (hb6.cell (p := ⟨u1.heap.size, 2, none⟩) (by simp; omega)).trans ((World.cell?_alloc_lt _ _ _ (by exact l5)).trans r2)
          have s3 : u6.cell? ⟨u1.heap.size, 3, none⟩ = some (.int .i64 ll) := (hb6.cell (p := ⟨u1.heap.size, 3, none⟩) (by simp; omega)).trans ((World.cell?_alloc_lt _ _ _ (by exact l5)).trans r3)
          have s4 : u6.cell? ⟨u1.heap.size, 4, none⟩ = some (.bool false) := (hb6.cell (p := ⟨u1.heap.size, 4, none⟩) (by simp; omega)).trans ((World.cell?_alloc_lt _ _ _ (by exact l5)).trans r4)
          have t0 : u6.cell? ⟨u5.heap.size, 0, none⟩ = some (.int .i64 lp) := (hb6.cell (p := ⟨u5.heap.size, 0, none⟩) (by simp)).trans (by simp)
          have t1 : u6.cell? ⟨u5.heap.size, 1, none⟩ = some (.int .i64 lq) := (hb6.cell (p := ⟨u5.heap.size, 1, none⟩) (by simp)).trans (by simp)
          have t2 : u6.cell? ⟨u5.heap.size, 2, none⟩ = some (.int .i64 lu) := (hb6.cell (p := ⟨u5.heap.size, 2, none⟩) (by simp)).trans (by simp)
          have t3 : u6.cell? ⟨u5.heap.size, 3, none⟩ = some (.int .i64 ll) := (hb6.cell (p := ⟨u5.heap.size, 3, none⟩) (by simp)).trans (by simp)
          have t4 : u6.cell? ⟨u5.heap.size, 4, none⟩ = some (.bool false) := (hb6.cell (p := ⟨u5.heap.size, 4, none⟩) (by simp)).trans (by simp)
          clear hb6 M5 r0 r1 r2 r3 r4
          go_wp2_with fail
          go_ret
          exact ⟨rfl, B6.out⟩
        · have hd : decide ((k : Int) < (n1 : Int)) = false := by simp; omega
          go_wp2_with fail
          refine (GT.out _ hM1.out.1.1).mono ?_
          rintro e u1 ⟨rfl, hb1⟩
          have M1 : Hid (OwnG w u1 w.heap.size T a0) := hM1.out.grow hb1
          have lw : w.heap.size < u1.heap.size := M1.out.1.1.2.2
          clear hb1 hM1
          go_wp2_with fail
          refine (CG.out _ (M1.out.grow (Go.Joins.below_alloc1 _ _)).1.1).mono ?_
          rintro e u2 ⟨rfl, h1, h2⟩
          have x0 : u2.cell? ⟨u1.heap.size, 0, none⟩ = some (.int .i64 lp) := cell_grown h2 (by simp) (by omega) (by simp)
          have x1 : u2.cell? ⟨u1.heap.size, 1, none⟩ = some (.int .i64 lq) := cell_grown h2 (by simp) (by omega) (by simp)
          have x2 : u2.cell? ⟨u1.heap.size, 2, none⟩ = some (.int .i64 lu) := cell_grown h2 (by simp) (by omega) (by simp)
          have x3 : u2.cell? ⟨u1.heap.size, 3, none⟩ = some (.int .i64 ll) := cell_grown h2 (by simp) (by omega) (by simp)
          have x4 : u2.cell? ⟨u1.heap.size, 4, none⟩ = some (.bool false) := cell_grown h2 (by simp) (by omega) (by simp)
          have l2 : u1.heap.size < u2.heap.size := Nat.lt_of_lt_of_le (by simp) h2.size
          have M2 : Hid (OwnG w u2 w.heap.size (chargeT T a2 a3) a0) := (M1.out.grow (Go.Joins.below_alloc1 _ _)).next h1 h2 (M1.out.2.charge _ _)
          clear h1 h2 M1 CG
          go_wp2_with fail
          refine wp_region_noPanic ?_
          refine wp_region_held_drew (S := fun _ => True) (by kernel_rfl) trivial (fun hHeld => ?_)
          refine wpAnyH_take (i := 0) (oi := ⟨some 55, _, _, _, _, none⟩) (v := ?_) rfl (by kernel_rfl) (by kernel_rfl) (by kernel_rfl) (fun _ _ _ h => h) (Or.inl ⟨by rfl, ?_⟩) (by assumption) ?_
          rotate_left
          · intro w hSw; (try dsimp only at hSw); go_simp; (try with_reducible rfl)
          try simp only [Act.put, List.setIfInBounds_toArray, List.set_cons_zero, List.set_cons_succ]
          refine wpAnyH_take (i := 1) (oi := ⟨some 56, _, _, _, _, none⟩) (v := ?_) rfl (by kernel_rfl) (by kernel_rfl) (by kernel_rfl) (fun _ _ _ h => h) (Or.inl ⟨by rfl, ?_⟩) (by assumption) ?_
          rotate_left
          · intro w hSw; (try dsimp only at hSw); go_simp; (try with_reducible rfl)
          try simp only [Act.put, List.setIfInBounds_toArray, List.set_cons_zero, List.set_cons_succ]
          refine wpAnyH_take (i := 2) (oi := ⟨some 57, _, _, _, _, none⟩) (v := ?_) rfl (by kernel_rfl) (by kernel_rfl) (by kernel_rfl) (fun _ _ _ h => h) (Or.inl ⟨by rfl, ?_⟩) (by assumption) ?_
          rotate_left
          · intro w hSw; (try dsimp only at hSw); go_simp; (try with_reducible rfl)
          try simp only [Act.put, List.setIfInBounds_toArray, List.set_cons_zero, List.set_cons_succ]
          refine wpAnyH_take (i := 3) (oi := ⟨some 58, _, _, _, _, some (2, true)⟩) (v := undef) rfl (by kernel_rfl) (by kernel_rfl) (by kernel_rfl) (fun _ _ _ h => h) (Or.inr ⟨by rfl, rfl⟩) (by assumption) ?_
          try simp only [Act.put, List.setIfInBounds_toArray, List.set_cons_zero, List.set_cons_succ]
          refine wpAnyH_take (i := 4) (oi := ⟨some 59, _, _, _, _, some (2, true)⟩) (v := undef) rfl (by kernel_rfl) (by kernel_rfl) (by kernel_rfl) (fun _ _ _ h => h) (Or.inr ⟨by rfl, rfl⟩) (by assumption) ?_
          try simp only [Act.put, List.setIfInBounds_toArray, List.set_cons_zero, List.set_cons_succ]
          refine wpAnyH_take (i := 5) (oi := ⟨some 60, _, _, _, _, some (2, true)⟩) (v := undef) rfl (by kernel_rfl) (by kernel_rfl) (by kernel_rfl) (fun _ _ _ h => h) (Or.inr ⟨by rfl, rfl⟩) (by assumption) ?_
          try simp only [Act.put, List.setIfInBounds_toArray, List.set_cons_zero, List.set_cons_succ]
          refine wpAnyH_take (i := 6) (oi := ⟨some 61, _, _, _, _, some (2, true)⟩) (v := undef) rfl (by kernel_rfl) (by kernel_rfl) (by kernel_rfl) (fun _ _ _ h => h) (Or.inr ⟨by rfl, rfl⟩) (by assumption) ?_
          try simp only [Act.put, List.setIfInBounds_toArray, List.set_cons_zero, List.set_cons_succ]
          refine wpAnyH_take (i := 7) (oi := ⟨some 62, _, _, _, _, some (2, true)⟩) (v := undef) rfl (by kernel_rfl) (by kernel_rfl) (by kernel_rfl) (fun _ _ _ h => h) (Or.inr ⟨by rfl, rfl⟩) (by assumption) ?_
          try simp only [Act.put, List.setIfInBounds_toArray, List.set_cons_zero, List.set_cons_succ]
          refine wpAnyH_take (i := 8) (oi := ⟨some 63, _, _, _, _, some (2, true)⟩) (v := undef) rfl (by kernel_rfl) (by kernel_rfl) (by kernel_rfl) (fun _ _ _ h => h) (Or.inr ⟨by rfl, rfl⟩) (by assumption) ?_
          try simp only [Act.put, List.setIfInBounds_toArray, List.set_cons_zero, List.set_cons_succ]
          refine wpAnyH_take (i := 9) (oi := ⟨some 64, _, _, _, _, some (2, true)⟩) (v := undef) rfl (by kernel_rfl) (by kernel_rfl) (by kernel_rfl) (fun _ _ _ h => h) (Or.inr ⟨by rfl, rfl⟩) (by assumption) ?_
          try simp only [Act.put, List.setIfInBounds_toArray, List.set_cons_zero, List.set_cons_succ]
          refine wpAnyH_take (i := 10) (oi := ⟨some 65, _, _, _, _, some (2, true)⟩) (v := undef) rfl (by kernel_rfl) (by kernel_rfl) (by kernel_rfl) (fun _ _ _ h => h) (Or.inr ⟨by rfl, rfl⟩) (by assumption) ?_
          try simp only [Act.put, List.setIfInBounds_toArray, List.set_cons_zero, List.set_cons_succ]
          refine wpAnyH_take (i := 11) (oi := ⟨some 66, _, _, _, _, some (2, true)⟩) (v := undef) rfl (by kernel_rfl) (by kernel_rfl) (by kernel_rfl) (fun _ _ _ h => h) (Or.inr ⟨by rfl, rfl⟩) (by assumption) ?_
          try simp only [Act.put, List.setIfInBounds_toArray, List.set_cons_zero, List.set_cons_succ]
          refine wpAnyH_take (i := 12) (oi := ⟨some 67, _, _, _, _, some (2, true)⟩) (v := undef) rfl (by kernel_rfl) (by kernel_rfl) (by kernel_rfl) (fun _ _ _ h => h) (Or.inr ⟨by rfl, rfl⟩) (by assumption) ?_
          try simp only [Act.put, List.setIfInBounds_toArray, List.set_cons_zero, List.set_cons_succ]
          refine wpAnyH_take (i := 13) (oi := ⟨some 68, _, _, _, _, some (2, true)⟩) (v := undef) rfl (by kernel_rfl) (by kernel_rfl) (by kernel_rfl) (fun _ _ _ h => h) (Or.inr ⟨by rfl, rfl⟩) (by assumption) ?_
          try simp only [Act.put, List.setIfInBounds_toArray, List.set_cons_zero, List.set_cons_succ]
          refine wpAnyH_take (i := 14) (oi := ⟨some 69, _, _, _, _, some (2, true)⟩) (v := undef) rfl (by kernel_rfl) (by kernel_rfl) (by kernel_rfl) (fun _ _ _ h => h) (Or.inr ⟨by rfl, rfl⟩) (by assumption) ?_
          try simp only [Act.put, List.setIfInBounds_toArray, List.set_cons_zero, List.set_cons_succ]
          refine wpAnyH_take (i := 15) (oi := ⟨some 70, _, _, _, _, some (2, true)⟩) (v := undef) rfl (by kernel_rfl) (by kernel_rfl) (by kernel_rfl) (fun _ _ _ h => h) (Or.inr ⟨by rfl, rfl⟩) (by assumption) ?_
          try simp only [Act.put, List.setIfInBounds_toArray, List.set_cons_zero, List.set_cons_succ]
          refine wpAnyH_take (i := 16) (oi := ⟨some 71, _, _, _, _, some (2, true)⟩) (v := undef) rfl (by kernel_rfl) (by kernel_rfl) (by kernel_rfl) (fun _ _ _ h => h) (Or.inr ⟨by rfl, rfl⟩) (by assumption) ?_
          try simp only [Act.put, List.setIfInBounds_toArray, List.set_cons_zero, List.set_cons_succ]
          refine wpAnyH_take (i := 17) (oi := ⟨some 72, _, _, _, _, some (2, true)⟩) (v := undef) rfl (by kernel_rfl) (by kernel_rfl) (by kernel_rfl) (fun _ _ _ h => h) (Or.inr ⟨by rfl, rfl⟩) (by assumption) ?_
          try simp only [Act.put, List.setIfInBounds_toArray, List.set_cons_zero, List.set_cons_succ]
          refine wpAnyH_take (i := 18) (oi := ⟨some 73, _, _, _, _, some (17, false)⟩) (v := undef) rfl (by kernel_rfl) (by kernel_rfl) (by kernel_rfl) (fun _ _ _ h => h) (Or.inr ⟨by rfl, rfl⟩) (by assumption) ?_
          try simp only [Act.put, List.setIfInBounds_toArray, List.set_cons_zero, List.set_cons_succ]
          refine wpAnyH_take (i := 19) (oi := ⟨some 74, _, _, _, _, some (17, false)⟩) (v := undef) rfl (by kernel_rfl) (by kernel_rfl) (by kernel_rfl) (fun _ _ _ h => h) (Or.inr ⟨by rfl, rfl⟩) (by assumption) ?_
          try simp only [Act.put, List.setIfInBounds_toArray, List.set_cons_zero, List.set_cons_succ]
          refine wpAnyH_take (i := 20) (oi := ⟨some 75, _, _, _, _, some (17, false)⟩) (v := undef) rfl (by kernel_rfl) (by kernel_rfl) (by kernel_rfl) (fun _ _ _ h => h) (Or.inr ⟨by rfl, rfl⟩) (by assumption) ?_
          try simp only [Act.put, List.setIfInBounds_toArray, List.set_cons_zero, List.set_cons_succ]
          refine wpAnyH_take (i := 21) (oi := ⟨some 76, _, _, _, _, some (17, false)⟩) (v := undef) rfl (by kernel_rfl) (by kernel_rfl) (by kernel_rfl) (fun _ _ _ h => h) (Or.inr ⟨by rfl, rfl⟩) (by assumption) ?_
          try simp only [Act.put, List.setIfInBounds_toArray, List.set_cons_zero, List.set_cons_succ]
          refine wpAnyH_take (i := 22) (oi := ⟨some 77, _, _, _, _, some (17, false)⟩) (v := undef) rfl (by kernel_rfl) (by kernel_rfl) (by kernel_rfl) (fun _ _ _ h => h) (Or.inr ⟨by rfl, rfl⟩) (by assumption) ?_
          try simp only [Act.put, List.setIfInBounds_toArray, List.set_cons_zero, List.set_cons_succ]
          refine wpAnyH_take (i := 23) (oi := ⟨some 78, _, _, _, _, some (2, true)⟩) (v := undef) rfl (by kernel_rfl) (by kernel_rfl) (by kernel_rfl) (fun _ _ _ h => h) (Or.inr ⟨by rfl, rfl⟩) (by assumption) ?_
          try simp only [Act.put, List.setIfInBounds_toArray, List.set_cons_zero, List.set_cons_succ]
          refine wpAnyH_take (i := 24) (oi := ⟨some 79, _, _, _, _, none⟩) (v := ?_) rfl (by kernel_rfl) (by kernel_rfl) (by kernel_rfl) (fun _ _ _ h => h) (Or.inl ⟨by rfl, ?_⟩) (by assumption) ?_
          rotate_left
          · intro w hSw; (try dsimp only at hSw); go_simp; (try with_reducible rfl)
          try simp only [Act.put, List.setIfInBounds_toArray, List.set_cons_zero, List.set_cons_succ]
          clear hHeld
          refine wpAnyH_done (by kernel_rfl) ?_ _
          refine NoPanic.normal ?_
          have MD : Hid (OwnG w u2.drew w.heap.size (chargeT T a2 a3) a0) := ⟨⟨M2.out.1.1.drew, below_drew M2.out.1.2.1, M2.out.1.2.2⟩, M2.out.2⟩
          have q0 : u2.drew.cell? ⟨u1.heap.size, 0, none⟩ = some (.int .i64 lp) := x0
          have q1 : u2.drew.cell? ⟨u1.heap.size, 1, none⟩ = some (.int .i64 lq) := x1
          have q2 : u2.drew.cell? ⟨u1.heap.size, 2, none⟩ = some (.int .i64 lu) := x2
          have q3 : u2.drew.cell? ⟨u1.heap.size, 3, none⟩ = some (.int .i64 ll) := x3
          have q4 : u2.drew.cell? ⟨u1.heap.size, 4, none⟩ = some (.bool false) := x4
          have lD : u1.heap.size < u2.drew.heap.size := l2
          clear x0 x1 x2 x3 x4 l2 M2
          generalize u2.drew = U at MD q0 q1 q2 q3 q4 lD ⊢
          go_wp2_with fail
          refine (GT2.out _ MD.out.1.1).mono ?_
          rintro e u5 ⟨rfl, hb5⟩
          have M5 : Hid (OwnG w u5 w.heap.size (chargeT T a2 a3) a0) := MD.out.grow hb5
          have r0 : u5.cell? ⟨u1.heap.size, 0, none⟩ = some (.int .i64 lp) := (hb5.cell (p := ⟨u1.heap.size, 0, none⟩) lD).trans q0
          have r1 : u5.cell? ⟨u1.heap.size, 1, none⟩ = some (.int .i64 lq) := (hb5.cell (p := ⟨u1.heap.size, 1, none⟩) lD).trans q1
          have r2 : u5.cell? ⟨u1.heap.size, 2, none⟩ = some (.int .i64 lu) := (hb5.cell (p := ⟨u1.heap.size, 2, none⟩) lD).trans q2
          have r3 : u5.cell? ⟨u1.heap.size, 3, none⟩ = some (.int .i64 ll) := (hb5.cell (p := ⟨u1.heap.size, 3, none⟩) lD).trans q3
          have r4 : u5.cell? ⟨u1.heap.size, 4, none⟩ = some (.bool false) := (hb5.cell (p := ⟨u1.heap.size, 4, none⟩) lD).trans q4
          have l5 : u1.heap.size < u5.heap.size := Nat.lt_of_lt_of_le lD hb5.size
          clear hb5 MD lD q0 q1 q2 q3 q4
          go_wp2_with fail
          refine (AW.out _).mono ?_
          rintro e u6 ⟨rfl, hb6⟩
          have B6 : Hid (Below w.heap.size w u6) := below_then (below_new M5.out.1.2.1 _) hb6
          have s0 : u6.cell? ⟨u1.heap.size, 0, none⟩ = some (.int .i64 lp) := (hb6.cell (p := ⟨u1.heap.size, 0, none⟩) (by simp; omega)).trans ((World.cell?_alloc_lt _ _ _ (by exact l5)).trans r0)
          have s1 : u6.cell? ⟨u1.heap.size, 1, none⟩ = some (.int .i64 lq) := (hb6.cell (p := ⟨u1.heap.size, 1, none⟩) (by simp; omega)).trans ((World.cell?_alloc_lt _ _ _ (by exact l5)).trans r1)
          have s2 : u6.cell? ⟨u1.heap.size, 2, none⟩ = some (.int .i64 lu) := (hb6.cell (p := ⟨u1.heap.size, 2, none⟩) (by simp; omega)).trans ((World.cell?_alloc_lt _ _ _ (by exact l5)).trans r2)
          have s3 : u6.cell? ⟨u1.heap.size, 3, none⟩ = some (.int .i64 ll) := (hb6.cell (p := ⟨u1.heap.size, 3, none⟩) (by simp; omega)).trans ((World.cell?_alloc_lt _ _ _ (by exact l5)).trans r3)
          have s4 : u6.cell? ⟨u1.heap.size, 4, none⟩ = some (.bool false) := (hb6.cell (p := ⟨u1.heap.size, 4, none⟩) (by simp; omega)).trans ((World.cell?_alloc_lt _ _ _ (by exact l5)).trans r4)
          have t0 : u6.cell? ⟨u5.heap.size, 0, none⟩ = some (.int .i64 lp) := (hb6.cell (p := ⟨u5.heap.size, 0, none⟩) (by simp)).trans (by simp)
          have t1 : u6.cell? ⟨u5.heap.size, 1, none⟩ = some (.int .i64 lq) := (hb6.cell (p := ⟨u5.heap.size, 1, none⟩) (by simp)).trans (by simp)
          have t2 : u6.cell? ⟨u5.heap.size, 2, none⟩ = some (.int .i64 lu) := (hb6.cell (p := ⟨u5.heap.size, 2, none⟩) (by simp)).trans (by simp)
          have t3 : u6.cell? ⟨u5.heap.size, 3, none⟩ = some (.int .i64 ll) := (hb6.cell (p := ⟨u5.heap.size, 3, none⟩) (by simp)).trans (by simp)
          have t4 : u6.cell? ⟨u5.heap.size, 4, none⟩ = some (.bool false) := (hb6.cell (p := ⟨u5.heap.size, 4, none⟩) (by simp)).trans (by simp)
          clear hb6 M5 r0 r1 r2 r3 r4
          go_wp2_with fail
          go_ret
          exact ⟨rfl, B6.out⟩
      · have zb : (z == 0) = false := by simp [z0]
        have GT : Hid (∀ W : World, IsTree W w.heap.size T → Calls Try.prog 14 #[.pointer (some ⟨w.heap.size, 0, none⟩), .int .i64 a2] W fun e w' => e = .returned (.tuple #[.agg #[.int .i64 lp, .int .i64 lq, .int .i64 lu, .int .i64 ll, .bool true], .bool true]) ∧ Below W.heap.size W w') := fun W h => by
          have := get_any w.heap.size T a2 W h
          rw [hg] at this; exact this
        have CG : Hid (∀ W : World, IsTree W w.heap.size T → Calls Try.prog 19 #[.pointer (some ⟨w.heap.size, 0, none⟩), .int .i64 a2, .int .i64 a3] W fun e w' => e = .returned (.int .i64 z) ∧ IsTree w' w.heap.size (chargeT T a2 a3) ∧ W.grownBy w' (some w.heap.size)) := fun W h => by
          have := charge_any w.heap.size T gT.okT a2 a3 W h
          rw [hz] at this; exact this
        have e3 : chargeT T a2 a3 = T := by unfold chargeT; rw [if_neg (by rw [hz]; exact z0)]
        have GT2 : Hid (∀ W : World, IsTree W w.heap.size (chargeT T a2 a3) → Calls Try.prog 14 #[.pointer (some ⟨w.heap.size, 0, none⟩), .int .i64 a2] W fun e w' => e = .returned (.tuple #[.agg #[.int .i64 lp, .int .i64 lq, .int .i64 lu, .int .i64 ll, .bool true], .bool true]) ∧ Below W.heap.size W w') := fun W h => by
          have := get_any w.heap.size (chargeT T a2 a3) a2 W h
          rw [e3, hg] at this; exact this
        clear e3 gT hg hz
        by_cases hq : k < n1
        · have hd : decide ((k : Int) < (n1 : Int)) = true := by simp; omega
          have hd2 : decide ((k : Int) < 60) = false := by simp; omega
          go_wp2_with fail
          refine (GT.out _ hM1.out.1.1).mono ?_
          rintro e u1 ⟨rfl, hb1⟩
          have M1 : Hid (OwnG w u1 w.heap.size T a0) := hM1.out.grow hb1
          have lw : w.heap.size < u1.heap.size := M1.out.1.1.2.2
          clear hb1 hM1
          go_wp2_with fail
          refine (CG.out _ (M1.out.grow (Go.Joins.below_alloc1 _ _)).1.1).mono ?_
          rintro e u2 ⟨rfl, h1, h2⟩
          have x0 : u2.cell? ⟨u1.heap.size, 0, none⟩ = some (.int .i64 lp) := cell_grown h2 (by simp) (by omega) (by simp)
          have x1 : u2.cell? ⟨u1.heap.size, 1, none⟩ = some (.int .i64 lq) := cell_grown h2 (by simp) (by omega) (by simp)
          have x2 : u2.cell? ⟨u1.heap.size, 2, none⟩ = some (.int .i64 lu) := cell_grown h2 (by simp) (by omega) (by simp)
          have x3 : u2.cell? ⟨u1.heap.size, 3, none⟩ = some (.int .i64 ll) := cell_grown h2 (by simp) (by omega) (by simp)
          have x4 : u2.cell? ⟨u1.heap.size, 4, none⟩ = some (.bool true) := cell_grown h2 (by simp) (by omega) (by simp)
          have l2 : u1.heap.size < u2.heap.size := Nat.lt_of_lt_of_le (by simp) h2.size
          have M2 : Hid (OwnG w u2 w.heap.size (chargeT T a2 a3) a0) := (M1.out.grow (Go.Joins.below_alloc1 _ _)).next h1 h2 (M1.out.2.charge _ _)
          clear h1 h2 M1 CG
          go_wp2_with fail
          refine wp_region_noPanic ?_
          refine wp_region_held_drew (S := fun _ => True) (by kernel_rfl) trivial (fun hHeld => ?_)
          refine wpAnyH_take (i := 0) (oi := ⟨some 55, _, _, _, _, none⟩) (v := ?_) rfl (by kernel_rfl) (by kernel_rfl) (by kernel_rfl) (fun _ _ _ h => h) (Or.inl ⟨by rfl, ?_⟩) (by assumption) ?_
          rotate_left
          · intro w hSw; (try dsimp only at hSw); go_simp; (try with_reducible rfl)
          try simp only [Act.put, List.setIfInBounds_toArray, List.set_cons_zero, List.set_cons_succ]
          refine wpAnyH_take (i := 1) (oi := ⟨some 56, _, _, _, _, none⟩) (v := ?_) rfl (by kernel_rfl) (by kernel_rfl) (by kernel_rfl) (fun _ _ _ h => h) (Or.inl ⟨by rfl, ?_⟩) (by assumption) ?_
          rotate_left
          · intro w hSw; (try dsimp only at hSw); go_simp; (try with_reducible rfl)
          try simp only [Act.put, List.setIfInBounds_toArray, List.set_cons_zero, List.set_cons_succ]
          refine wpAnyH_take (i := 2) (oi := ⟨some 57, _, _, _, _, none⟩) (v := ?_) rfl (by kernel_rfl) (by kernel_rfl) (by kernel_rfl) (fun _ _ _ h => h) (Or.inl ⟨by rfl, ?_⟩) (by assumption) ?_
          rotate_left
          · intro w hSw; (try dsimp only at hSw); go_simp; (try with_reducible rfl)
          try simp only [Act.put, List.setIfInBounds_toArray, List.set_cons_zero, List.set_cons_succ]
          refine wpAnyH_take (i := 3) (oi := ⟨some 58, _, _, _, _, some (2, true)⟩) (v := undef) rfl (by kernel_rfl) (by kernel_rfl) (by kernel_rfl) (fun _ _ _ h => h) (Or.inr ⟨by rfl, rfl⟩) (by assumption) ?_
          try simp only [Act.put, List.setIfInBounds_toArray, List.set_cons_zero, List.set_cons_succ]
          refine wpAnyH_take (i := 4) (oi := ⟨some 59, _, _, _, _, some (2, true)⟩) (v := undef) rfl (by kernel_rfl) (by kernel_rfl) (by kernel_rfl) (fun _ _ _ h => h) (Or.inr ⟨by rfl, rfl⟩) (by assumption) ?_
          try simp only [Act.put, List.setIfInBounds_toArray, List.set_cons_zero, List.set_cons_succ]
          refine wpAnyH_take (i := 5) (oi := ⟨some 60, _, _, _, _, some (2, true)⟩) (v := undef) rfl (by kernel_rfl) (by kernel_rfl) (by kernel_rfl) (fun _ _ _ h => h) (Or.inr ⟨by rfl, rfl⟩) (by assumption) ?_
          try simp only [Act.put, List.setIfInBounds_toArray, List.set_cons_zero, List.set_cons_succ]
          refine wpAnyH_take (i := 6) (oi := ⟨some 61, _, _, _, _, some (2, true)⟩) (v := undef) rfl (by kernel_rfl) (by kernel_rfl) (by kernel_rfl) (fun _ _ _ h => h) (Or.inr ⟨by rfl, rfl⟩) (by assumption) ?_
          try simp only [Act.put, List.setIfInBounds_toArray, List.set_cons_zero, List.set_cons_succ]
          refine wpAnyH_take (i := 7) (oi := ⟨some 62, _, _, _, _, some (2, true)⟩) (v := undef) rfl (by kernel_rfl) (by kernel_rfl) (by kernel_rfl) (fun _ _ _ h => h) (Or.inr ⟨by rfl, rfl⟩) (by assumption) ?_
          try simp only [Act.put, List.setIfInBounds_toArray, List.set_cons_zero, List.set_cons_succ]
          refine wpAnyH_take (i := 8) (oi := ⟨some 63, _, _, _, _, some (2, true)⟩) (v := undef) rfl (by kernel_rfl) (by kernel_rfl) (by kernel_rfl) (fun _ _ _ h => h) (Or.inr ⟨by rfl, rfl⟩) (by assumption) ?_
          try simp only [Act.put, List.setIfInBounds_toArray, List.set_cons_zero, List.set_cons_succ]
          refine wpAnyH_take (i := 9) (oi := ⟨some 64, _, _, _, _, some (2, true)⟩) (v := undef) rfl (by kernel_rfl) (by kernel_rfl) (by kernel_rfl) (fun _ _ _ h => h) (Or.inr ⟨by rfl, rfl⟩) (by assumption) ?_
          try simp only [Act.put, List.setIfInBounds_toArray, List.set_cons_zero, List.set_cons_succ]
          refine wpAnyH_take (i := 10) (oi := ⟨some 65, _, _, _, _, some (2, true)⟩) (v := undef) rfl (by kernel_rfl) (by kernel_rfl) (by kernel_rfl) (fun _ _ _ h => h) (Or.inr ⟨by rfl, rfl⟩) (by assumption) ?_
          try simp only [Act.put, List.setIfInBounds_toArray, List.set_cons_zero, List.set_cons_succ]
          refine wpAnyH_take (i := 11) (oi := ⟨some 66, _, _, _, _, some (2, true)⟩) (v := undef) rfl (by kernel_rfl) (by kernel_rfl) (by kernel_rfl) (fun _ _ _ h => h) (Or.inr ⟨by rfl, rfl⟩) (by assumption) ?_
          try simp only [Act.put, List.setIfInBounds_toArray, List.set_cons_zero, List.set_cons_succ]
          refine wpAnyH_take (i := 12) (oi := ⟨some 67, _, _, _, _, some (2, true)⟩) (v := undef) rfl (by kernel_rfl) (by kernel_rfl) (by kernel_rfl) (fun _ _ _ h => h) (Or.inr ⟨by rfl, rfl⟩) (by assumption) ?_
          try simp only [Act.put, List.setIfInBounds_toArray, List.set_cons_zero, List.set_cons_succ]
          refine wpAnyH_take (i := 13) (oi := ⟨some 68, _, _, _, _, some (2, true)⟩) (v := undef) rfl (by kernel_rfl) (by kernel_rfl) (by kernel_rfl) (fun _ _ _ h => h) (Or.inr ⟨by rfl, rfl⟩) (by assumption) ?_
          try simp only [Act.put, List.setIfInBounds_toArray, List.set_cons_zero, List.set_cons_succ]
          refine wpAnyH_take (i := 14) (oi := ⟨some 69, _, _, _, _, some (2, true)⟩) (v := undef) rfl (by kernel_rfl) (by kernel_rfl) (by kernel_rfl) (fun _ _ _ h => h) (Or.inr ⟨by rfl, rfl⟩) (by assumption) ?_
          try simp only [Act.put, List.setIfInBounds_toArray, List.set_cons_zero, List.set_cons_succ]
          refine wpAnyH_take (i := 15) (oi := ⟨some 70, _, _, _, _, some (2, true)⟩) (v := undef) rfl (by kernel_rfl) (by kernel_rfl) (by kernel_rfl) (fun _ _ _ h => h) (Or.inr ⟨by rfl, rfl⟩) (by assumption) ?_
          try simp only [Act.put, List.setIfInBounds_toArray, List.set_cons_zero, List.set_cons_succ]
          refine wpAnyH_take (i := 16) (oi := ⟨some 71, _, _, _, _, some (2, true)⟩) (v := undef) rfl (by kernel_rfl) (by kernel_rfl) (by kernel_rfl) (fun _ _ _ h => h) (Or.inr ⟨by rfl, rfl⟩) (by assumption) ?_
          try simp only [Act.put, List.setIfInBounds_toArray, List.set_cons_zero, List.set_cons_succ]
          refine wpAnyH_take (i := 17) (oi := ⟨some 72, _, _, _, _, some (2, true)⟩) (v := undef) rfl (by kernel_rfl) (by kernel_rfl) (by kernel_rfl) (fun _ _ _ h => h) (Or.inr ⟨by rfl, rfl⟩) (by assumption) ?_
          try simp only [Act.put, List.setIfInBounds_toArray, List.set_cons_zero, List.set_cons_succ]
          refine wpAnyH_take (i := 18) (oi := ⟨some 73, _, _, _, _, some (17, false)⟩) (v := undef) rfl (by kernel_rfl) (by kernel_rfl) (by kernel_rfl) (fun _ _ _ h => h) (Or.inr ⟨by rfl, rfl⟩) (by assumption) ?_
          try simp only [Act.put, List.setIfInBounds_toArray, List.set_cons_zero, List.set_cons_succ]
          refine wpAnyH_take (i := 19) (oi := ⟨some 74, _, _, _, _, some (17, false)⟩) (v := undef) rfl (by kernel_rfl) (by kernel_rfl) (by kernel_rfl) (fun _ _ _ h => h) (Or.inr ⟨by rfl, rfl⟩) (by assumption) ?_
          try simp only [Act.put, List.setIfInBounds_toArray, List.set_cons_zero, List.set_cons_succ]
          refine wpAnyH_take (i := 20) (oi := ⟨some 75, _, _, _, _, some (17, false)⟩) (v := undef) rfl (by kernel_rfl) (by kernel_rfl) (by kernel_rfl) (fun _ _ _ h => h) (Or.inr ⟨by rfl, rfl⟩) (by assumption) ?_
          try simp only [Act.put, List.setIfInBounds_toArray, List.set_cons_zero, List.set_cons_succ]
          refine wpAnyH_take (i := 21) (oi := ⟨some 76, _, _, _, _, some (17, false)⟩) (v := undef) rfl (by kernel_rfl) (by kernel_rfl) (by kernel_rfl) (fun _ _ _ h => h) (Or.inr ⟨by rfl, rfl⟩) (by assumption) ?_
          try simp only [Act.put, List.setIfInBounds_toArray, List.set_cons_zero, List.set_cons_succ]
          refine wpAnyH_take (i := 22) (oi := ⟨some 77, _, _, _, _, some (17, false)⟩) (v := undef) rfl (by kernel_rfl) (by kernel_rfl) (by kernel_rfl) (fun _ _ _ h => h) (Or.inr ⟨by rfl, rfl⟩) (by assumption) ?_
          try simp only [Act.put, List.setIfInBounds_toArray, List.set_cons_zero, List.set_cons_succ]
          refine wpAnyH_take (i := 23) (oi := ⟨some 78, _, _, _, _, some (2, true)⟩) (v := undef) rfl (by kernel_rfl) (by kernel_rfl) (by kernel_rfl) (fun _ _ _ h => h) (Or.inr ⟨by rfl, rfl⟩) (by assumption) ?_
          try simp only [Act.put, List.setIfInBounds_toArray, List.set_cons_zero, List.set_cons_succ]
          refine wpAnyH_take (i := 24) (oi := ⟨some 79, _, _, _, _, none⟩) (v := ?_) rfl (by kernel_rfl) (by kernel_rfl) (by kernel_rfl) (fun _ _ _ h => h) (Or.inl ⟨by rfl, ?_⟩) (by assumption) ?_
          rotate_left
          · intro w hSw; (try dsimp only at hSw); go_simp; (try with_reducible rfl)
          try simp only [Act.put, List.setIfInBounds_toArray, List.set_cons_zero, List.set_cons_succ]
          clear hHeld
          refine wpAnyH_done (by kernel_rfl) ?_ _
          refine NoPanic.normal ?_
          have MD : Hid (OwnG w u2.drew w.heap.size (chargeT T a2 a3) a0) := ⟨⟨M2.out.1.1.drew, below_drew M2.out.1.2.1, M2.out.1.2.2⟩, M2.out.2⟩
          have q0 : u2.drew.cell? ⟨u1.heap.size, 0, none⟩ = some (.int .i64 lp) := x0
          have q1 : u2.drew.cell? ⟨u1.heap.size, 1, none⟩ = some (.int .i64 lq) := x1
          have q2 : u2.drew.cell? ⟨u1.heap.size, 2, none⟩ = some (.int .i64 lu) := x2
          have q3 : u2.drew.cell? ⟨u1.heap.size, 3, none⟩ = some (.int .i64 ll) := x3
          have q4 : u2.drew.cell? ⟨u1.heap.size, 4, none⟩ = some (.bool true) := x4
          have lD : u1.heap.size < u2.drew.heap.size := l2
          clear x0 x1 x2 x3 x4 l2 M2
          generalize u2.drew = U at MD q0 q1 q2 q3 q4 lD ⊢
          go_wp2_with fail
          refine (GT2.out _ MD.out.1.1).mono ?_
          rintro e u5 ⟨rfl, hb5⟩
          have M5 : Hid (OwnG w u5 w.heap.size (chargeT T a2 a3) a0) := MD.out.grow hb5
          have r0 : u5.cell? ⟨u1.heap.size, 0, none⟩ = some (.int .i64 lp) := (hb5.cell (p := ⟨u1.heap.size, 0, none⟩) lD).trans q0
          have r1 : u5.cell? ⟨u1.heap.size, 1, none⟩ = some (.int .i64 lq) := (hb5.cell (p := ⟨u1.heap.size, 1, none⟩) lD).trans q1
          have r2 : u5.cell? ⟨u1.heap.size, 2, none⟩ = some (.int .i64 lu) := (hb5.cell (p := ⟨u1.heap.size, 2, none⟩) lD).trans q2
          have r3 : u5.cell? ⟨u1.heap.size, 3, none⟩ = some (.int .i64 ll) := (hb5.cell (p := ⟨u1.heap.size, 3, none⟩) lD).trans q3
          have r4 : u5.cell? ⟨u1.heap.size, 4, none⟩ = some (.bool true) := (hb5.cell (p := ⟨u1.heap.size, 4, none⟩) lD).trans q4
          have l5 : u1.heap.size < u5.heap.size := Nat.lt_of_lt_of_le lD hb5.size
          clear hb5 MD lD q0 q1 q2 q3 q4
          go_wp2_with fail
          refine (AW.out _).mono ?_
          rintro e u6 ⟨rfl, hb6⟩
          have B6 : Hid (Below w.heap.size w u6) := below_then (below_new M5.out.1.2.1 _) hb6
          have s0 : u6.cell? ⟨u1.heap.size, 0, none⟩ = some (.int .i64 lp) := (hb6.cell (p := ⟨u1.heap.size, 0, none⟩) (by simp; omega)).trans ((World.cell?_alloc_lt _ _ _ (by exact l5)).trans r0)
          have s1 : u6.cell? ⟨u1.heap.size, 1, none⟩ = some (.int .i64 lq) := (hb6.cell (p := ⟨u1.heap.size, 1, none⟩) (by simp; omega)).trans ((World.cell?_alloc_lt _ _ _ (by exact l5)).trans r1)
          have s2 : u6.cell? ⟨u1.heap.size, 2, none⟩ = some (.int .i64 lu) := (hb6.cell (p := ⟨u1.heap.size, 2, none⟩) (by simp; omega)).trans ((World.cell?_alloc_lt _ _ _ (by exact l5)).trans r2)
          have s3 : u6.cell? ⟨u1.heap.size, 3, none⟩ = some (.int .i64 ll) := (hb6.cell (p := ⟨u1.heap.size, 3, none⟩) (by simp; omega)).trans ((World.cell?_alloc_lt _ _ _ (by exact l5)).trans r3)
          have s4 : u6.cell? ⟨u1.heap.size, 4, none⟩ = some (.bool true) := (hb6.cell (p := ⟨u1.heap.size, 4, none⟩) (by simp; omega)).trans ((World.cell?_alloc_lt _ _ _ (by exact l5)).trans r4)
          have t0 : u6.cell? ⟨u5.heap.size, 0, none⟩ = some (.int .i64 lp) := (hb6.cell (p := ⟨u5.heap.size, 0, none⟩) (by simp)).trans (by simp)
          have t1 : u6.cell? ⟨u5.heap.size, 1, none⟩ = some (.int .i64 lq) := (hb6.cell (p := ⟨u5.heap.size, 1, none⟩) (by simp)).trans (by simp)
          have t2 : u6.cell? ⟨u5.heap.size, 2, none⟩ = some (.int .i64 lu) := (hb6.cell (p := ⟨u5.heap.size, 2, none⟩) (by simp)).trans (by simp)
          have t3 : u6.cell? ⟨u5.heap.size, 3, none⟩ = some (.int .i64 ll) := (hb6.cell (p := ⟨u5.heap.size, 3, none⟩) (by simp)).trans (by simp)
          have t4 : u6.cell? ⟨u5.heap.size, 4, none⟩ = some (.bool true) := (hb6.cell (p := ⟨u5.heap.size, 4, none⟩) (by simp)).trans (by simp)
          clear hb6 M5 r0 r1 r2 r3 r4
          go_wp2_with fail
          go_ret
          exact ⟨rfl, B6.out⟩
        · have hd : decide ((k : Int) < (n1 : Int)) = false := by simp; omega
          go_wp2_with fail
          refine (GT.out _ hM1.out.1.1).mono ?_
          rintro e u1 ⟨rfl, hb1⟩
          have M1 : Hid (OwnG w u1 w.heap.size T a0) := hM1.out.grow hb1
          have lw : w.heap.size < u1.heap.size := M1.out.1.1.2.2
          clear hb1 hM1
          go_wp2_with fail
          refine (CG.out _ (M1.out.grow (Go.Joins.below_alloc1 _ _)).1.1).mono ?_
          rintro e u2 ⟨rfl, h1, h2⟩
          have x0 : u2.cell? ⟨u1.heap.size, 0, none⟩ = some (.int .i64 lp) := cell_grown h2 (by simp) (by omega) (by simp)
          have x1 : u2.cell? ⟨u1.heap.size, 1, none⟩ = some (.int .i64 lq) := cell_grown h2 (by simp) (by omega) (by simp)
          have x2 : u2.cell? ⟨u1.heap.size, 2, none⟩ = some (.int .i64 lu) := cell_grown h2 (by simp) (by omega) (by simp)
          have x3 : u2.cell? ⟨u1.heap.size, 3, none⟩ = some (.int .i64 ll) := cell_grown h2 (by simp) (by omega) (by simp)
          have x4 : u2.cell? ⟨u1.heap.size, 4, none⟩ = some (.bool true) := cell_grown h2 (by simp) (by omega) (by simp)
          have l2 : u1.heap.size < u2.heap.size := Nat.lt_of_lt_of_le (by simp) h2.size
          have M2 : Hid (OwnG w u2 w.heap.size (chargeT T a2 a3) a0) := (M1.out.grow (Go.Joins.below_alloc1 _ _)).next h1 h2 (M1.out.2.charge _ _)
          clear h1 h2 M1 CG
          go_wp2_with fail
          refine wp_region_noPanic ?_
          refine wp_region_held_drew (S := fun _ => True) (by kernel_rfl) trivial (fun hHeld => ?_)
          refine wpAnyH_take (i := 0) (oi := ⟨some 55, _, _, _, _, none⟩) (v := ?_) rfl (by kernel_rfl) (by kernel_rfl) (by kernel_rfl) (fun _ _ _ h => h) (Or.inl ⟨by rfl, ?_⟩) (by assumption) ?_
          rotate_left
          · intro w hSw; (try dsimp only at hSw); go_simp; (try with_reducible rfl)
          try simp only [Act.put, List.setIfInBounds_toArray, List.set_cons_zero, List.set_cons_succ]
          refine wpAnyH_take (i := 1) (oi := ⟨some 56, _, _, _, _, none⟩) (v := ?_) rfl (by kernel_rfl) (by kernel_rfl) (by kernel_rfl) (fun _ _ _ h => h) (Or.inl ⟨by rfl, ?_⟩) (by assumption) ?_
          rotate_left
          · intro w hSw; (try dsimp only at hSw); go_simp; (try with_reducible rfl)
          try simp only [Act.put, List.setIfInBounds_toArray, List.set_cons_zero, List.set_cons_succ]
          refine wpAnyH_take (i := 2) (oi := ⟨some 57, _, _, _, _, none⟩) (v := ?_) rfl (by kernel_rfl) (by kernel_rfl) (by kernel_rfl) (fun _ _ _ h => h) (Or.inl ⟨by rfl, ?_⟩) (by assumption) ?_
          rotate_left
          · intro w hSw; (try dsimp only at hSw); go_simp; (try with_reducible rfl)
          try simp only [Act.put, List.setIfInBounds_toArray, List.set_cons_zero, List.set_cons_succ]
          refine wpAnyH_take (i := 3) (oi := ⟨some 58, _, _, _, _, some (2, true)⟩) (v := undef) rfl (by kernel_rfl) (by kernel_rfl) (by kernel_rfl) (fun _ _ _ h => h) (Or.inr ⟨by rfl, rfl⟩) (by assumption) ?_
          try simp only [Act.put, List.setIfInBounds_toArray, List.set_cons_zero, List.set_cons_succ]
          refine wpAnyH_take (i := 4) (oi := ⟨some 59, _, _, _, _, some (2, true)⟩) (v := undef) rfl (by kernel_rfl) (by kernel_rfl) (by kernel_rfl) (fun _ _ _ h => h) (Or.inr ⟨by rfl, rfl⟩) (by assumption) ?_
          try simp only [Act.put, List.setIfInBounds_toArray, List.set_cons_zero, List.set_cons_succ]
          refine wpAnyH_take (i := 5) (oi := ⟨some 60, _, _, _, _, some (2, true)⟩) (v := undef) rfl (by kernel_rfl) (by kernel_rfl) (by kernel_rfl) (fun _ _ _ h => h) (Or.inr ⟨by rfl, rfl⟩) (by assumption) ?_
          try simp only [Act.put, List.setIfInBounds_toArray, List.set_cons_zero, List.set_cons_succ]
          refine wpAnyH_take (i := 6) (oi := ⟨some 61, _, _, _, _, some (2, true)⟩) (v := undef) rfl (by kernel_rfl) (by kernel_rfl) (by kernel_rfl) (fun _ _ _ h => h) (Or.inr ⟨by rfl, rfl⟩) (by assumption) ?_
          try simp only [Act.put, List.setIfInBounds_toArray, List.set_cons_zero, List.set_cons_succ]
          refine wpAnyH_take (i := 7) (oi := ⟨some 62, _, _, _, _, some (2, true)⟩) (v := undef) rfl (by kernel_rfl) (by kernel_rfl) (by kernel_rfl) (fun _ _ _ h => h) (Or.inr ⟨by rfl, rfl⟩) (by assumption) ?_
          try simp only [Act.put, List.setIfInBounds_toArray, List.set_cons_zero, List.set_cons_succ]
          refine wpAnyH_take (i := 8) (oi := ⟨some 63, _, _, _, _, some (2, true)⟩) (v := undef) rfl (by kernel_rfl) (by kernel_rfl) (by kernel_rfl) (fun _ _ _ h => h) (Or.inr ⟨by rfl, rfl⟩) (by assumption) ?_
          try simp only [Act.put, List.setIfInBounds_toArray, List.set_cons_zero, List.set_cons_succ]
          refine wpAnyH_take (i := 9) (oi := ⟨some 64, _, _, _, _, some (2, true)⟩) (v := undef) rfl (by kernel_rfl) (by kernel_rfl) (by kernel_rfl) (fun _ _ _ h => h) (Or.inr ⟨by rfl, rfl⟩) (by assumption) ?_
          try simp only [Act.put, List.setIfInBounds_toArray, List.set_cons_zero, List.set_cons_succ]
          refine wpAnyH_take (i := 10) (oi := ⟨some 65, _, _, _, _, some (2, true)⟩) (v := undef) rfl (by kernel_rfl) (by kernel_rfl) (by kernel_rfl) (fun _ _ _ h => h) (Or.inr ⟨by rfl, rfl⟩) (by assumption) ?_
          try simp only [Act.put, List.setIfInBounds_toArray, List.set_cons_zero, List.set_cons_succ]
          refine wpAnyH_take (i := 11) (oi := ⟨some 66, _, _, _, _, some (2, true)⟩) (v := undef) rfl (by kernel_rfl) (by kernel_rfl) (by kernel_rfl) (fun _ _ _ h => h) (Or.inr ⟨by rfl, rfl⟩) (by assumption) ?_
          try simp only [Act.put, List.setIfInBounds_toArray, List.set_cons_zero, List.set_cons_succ]
          refine wpAnyH_take (i := 12) (oi := ⟨some 67, _, _, _, _, some (2, true)⟩) (v := undef) rfl (by kernel_rfl) (by kernel_rfl) (by kernel_rfl) (fun _ _ _ h => h) (Or.inr ⟨by rfl, rfl⟩) (by assumption) ?_
          try simp only [Act.put, List.setIfInBounds_toArray, List.set_cons_zero, List.set_cons_succ]
          refine wpAnyH_take (i := 13) (oi := ⟨some 68, _, _, _, _, some (2, true)⟩) (v := undef) rfl (by kernel_rfl) (by kernel_rfl) (by kernel_rfl) (fun _ _ _ h => h) (Or.inr ⟨by rfl, rfl⟩) (by assumption) ?_
          try simp only [Act.put, List.setIfInBounds_toArray, List.set_cons_zero, List.set_cons_succ]
          refine wpAnyH_take (i := 14) (oi := ⟨some 69, _, _, _, _, some (2, true)⟩) (v := undef) rfl (by kernel_rfl) (by kernel_rfl) (by kernel_rfl) (fun _ _ _ h => h) (Or.inr ⟨by rfl, rfl⟩) (by assumption) ?_
          try simp only [Act.put, List.setIfInBounds_toArray, List.set_cons_zero, List.set_cons_succ]
          refine wpAnyH_take (i := 15) (oi := ⟨some 70, _, _, _, _, some (2, true)⟩) (v := undef) rfl (by kernel_rfl) (by kernel_rfl) (by kernel_rfl) (fun _ _ _ h => h) (Or.inr ⟨by rfl, rfl⟩) (by assumption) ?_
          try simp only [Act.put, List.setIfInBounds_toArray, List.set_cons_zero, List.set_cons_succ]
          refine wpAnyH_take (i := 16) (oi := ⟨some 71, _, _, _, _, some (2, true)⟩) (v := undef) rfl (by kernel_rfl) (by kernel_rfl) (by kernel_rfl) (fun _ _ _ h => h) (Or.inr ⟨by rfl, rfl⟩) (by assumption) ?_
          try simp only [Act.put, List.setIfInBounds_toArray, List.set_cons_zero, List.set_cons_succ]
          refine wpAnyH_take (i := 17) (oi := ⟨some 72, _, _, _, _, some (2, true)⟩) (v := undef) rfl (by kernel_rfl) (by kernel_rfl) (by kernel_rfl) (fun _ _ _ h => h) (Or.inr ⟨by rfl, rfl⟩) (by assumption) ?_
          try simp only [Act.put, List.setIfInBounds_toArray, List.set_cons_zero, List.set_cons_succ]
          refine wpAnyH_take (i := 18) (oi := ⟨some 73, _, _, _, _, some (17, false)⟩) (v := undef) rfl (by kernel_rfl) (by kernel_rfl) (by kernel_rfl) (fun _ _ _ h => h) (Or.inr ⟨by rfl, rfl⟩) (by assumption) ?_
          try simp only [Act.put, List.setIfInBounds_toArray, List.set_cons_zero, List.set_cons_succ]
          refine wpAnyH_take (i := 19) (oi := ⟨some 74, _, _, _, _, some (17, false)⟩) (v := undef) rfl (by kernel_rfl) (by kernel_rfl) (by kernel_rfl) (fun _ _ _ h => h) (Or.inr ⟨by rfl, rfl⟩) (by assumption) ?_
          try simp only [Act.put, List.setIfInBounds_toArray, List.set_cons_zero, List.set_cons_succ]
          refine wpAnyH_take (i := 20) (oi := ⟨some 75, _, _, _, _, some (17, false)⟩) (v := undef) rfl (by kernel_rfl) (by kernel_rfl) (by kernel_rfl) (fun _ _ _ h => h) (Or.inr ⟨by rfl, rfl⟩) (by assumption) ?_
          try simp only [Act.put, List.setIfInBounds_toArray, List.set_cons_zero, List.set_cons_succ]
          refine wpAnyH_take (i := 21) (oi := ⟨some 76, _, _, _, _, some (17, false)⟩) (v := undef) rfl (by kernel_rfl) (by kernel_rfl) (by kernel_rfl) (fun _ _ _ h => h) (Or.inr ⟨by rfl, rfl⟩) (by assumption) ?_
          try simp only [Act.put, List.setIfInBounds_toArray, List.set_cons_zero, List.set_cons_succ]
          refine wpAnyH_take (i := 22) (oi := ⟨some 77, _, _, _, _, some (17, false)⟩) (v := undef) rfl (by kernel_rfl) (by kernel_rfl) (by kernel_rfl) (fun _ _ _ h => h) (Or.inr ⟨by rfl, rfl⟩) (by assumption) ?_
          try simp only [Act.put, List.setIfInBounds_toArray, List.set_cons_zero, List.set_cons_succ]
          refine wpAnyH_take (i := 23) (oi := ⟨some 78, _, _, _, _, some (2, true)⟩) (v := undef) rfl (by kernel_rfl) (by kernel_rfl) (by kernel_rfl) (fun _ _ _ h => h) (Or.inr ⟨by rfl, rfl⟩) (by assumption) ?_
          try simp only [Act.put, List.setIfInBounds_toArray, List.set_cons_zero, List.set_cons_succ]
          refine wpAnyH_take (i := 24) (oi := ⟨some 79, _, _, _, _, none⟩) (v := ?_) rfl (by kernel_rfl) (by kernel_rfl) (by kernel_rfl) (fun _ _ _ h => h) (Or.inl ⟨by rfl, ?_⟩) (by assumption) ?_
          rotate_left
          · intro w hSw; (try dsimp only at hSw); go_simp; (try with_reducible rfl)
          try simp only [Act.put, List.setIfInBounds_toArray, List.set_cons_zero, List.set_cons_succ]
          clear hHeld
          refine wpAnyH_done (by kernel_rfl) ?_ _
          refine NoPanic.normal ?_
          have MD : Hid (OwnG w u2.drew w.heap.size (chargeT T a2 a3) a0) := ⟨⟨M2.out.1.1.drew, below_drew M2.out.1.2.1, M2.out.1.2.2⟩, M2.out.2⟩
          have q0 : u2.drew.cell? ⟨u1.heap.size, 0, none⟩ = some (.int .i64 lp) := x0
          have q1 : u2.drew.cell? ⟨u1.heap.size, 1, none⟩ = some (.int .i64 lq) := x1
          have q2 : u2.drew.cell? ⟨u1.heap.size, 2, none⟩ = some (.int .i64 lu) := x2
          have q3 : u2.drew.cell? ⟨u1.heap.size, 3, none⟩ = some (.int .i64 ll) := x3
          have q4 : u2.drew.cell? ⟨u1.heap.size, 4, none⟩ = some (.bool true) := x4
          have lD : u1.heap.size < u2.drew.heap.size := l2
          clear x0 x1 x2 x3 x4 l2 M2
          generalize u2.drew = U at MD q0 q1 q2 q3 q4 lD ⊢
          go_wp2_with fail
          refine (GT2.out _ MD.out.1.1).mono ?_
          rintro e u5 ⟨rfl, hb5⟩
          have M5 : Hid (OwnG w u5 w.heap.size (chargeT T a2 a3) a0) := MD.out.grow hb5
          have r0 : u5.cell? ⟨u1.heap.size, 0, none⟩ = some (.int .i64 lp) := (hb5.cell (p := ⟨u1.heap.size, 0, none⟩) lD).trans q0
          have r1 : u5.cell? ⟨u1.heap.size, 1, none⟩ = some (.int .i64 lq) := (hb5.cell (p := ⟨u1.heap.size, 1, none⟩) lD).trans q1
          have r2 : u5.cell? ⟨u1.heap.size, 2, none⟩ = some (.int .i64 lu) := (hb5.cell (p := ⟨u1.heap.size, 2, none⟩) lD).trans q2
          have r3 : u5.cell? ⟨u1.heap.size, 3, none⟩ = some (.int .i64 ll) := (hb5.cell (p := ⟨u1.heap.size, 3, none⟩) lD).trans q3
          have r4 : u5.cell? ⟨u1.heap.size, 4, none⟩ = some (.bool true) := (hb5.cell (p := ⟨u1.heap.size, 4, none⟩) lD).trans q4
          have l5 : u1.heap.size < u5.heap.size := Nat.lt_of_lt_of_le lD hb5.size
          clear hb5 MD lD q0 q1 q2 q3 q4
          go_wp2_with fail
          refine (AW.out _).mono ?_
          rintro e u6 ⟨rfl, hb6⟩
          have B6 : Hid (Below w.heap.size w u6) := below_then (below_new M5.out.1.2.1 _) hb6
          have s0 : u6.cell? ⟨u1.heap.size, 0, none⟩ = some (.int .i64 lp) := (hb6.cell (p := ⟨u1.heap.size, 0, none⟩) (by simp; omega)).trans ((World.cell?_alloc_lt _ _ _ (by exact l5)).trans r0)
          have s1 : u6.cell? ⟨u1.heap.size, 1, none⟩ = some (.int .i64 lq) := (hb6.cell (p := ⟨u1.heap.size, 1, none⟩) (by simp; omega)).trans ((World.cell?_alloc_lt _ _ _ (by exact l5)).trans r1)
          have s2 : u6.cell? ⟨u1.heap.size, 2, none⟩ = some (.int .i64 lu) := (hb6.cell (p := ⟨u1.heap.size, 2, none⟩) (by simp; omega)).trans ((World.cell?_alloc_lt _ _ _ (by exact l5)).trans r2)
          have s3 : u6.cell? ⟨u1.heap.size, 3, none⟩ = some (.int .i64 ll) := (hb6.cell (p := ⟨u1.heap.size, 3, none⟩) (by simp; omega)).trans ((World.cell?_alloc_lt _ _ _ (by exact l5)).trans r3)
          have s4 : u6.cell? ⟨u1.heap.size, 4, none⟩ = some (.bool true) := (hb6.cell (p := ⟨u1.heap.size, 4, none⟩) (by simp; omega)).trans ((World.cell?_alloc_lt _ _ _ (by exact l5)).trans r4)
          have t0 : u6.cell? ⟨u5.heap.size, 0, none⟩ = some (.int .i64 lp) := (hb6.cell (p := ⟨u5.heap.size, 0, none⟩) (by simp)).trans (by simp)
          have t1 : u6.cell? ⟨u5.heap.size, 1, none⟩ = some (.int .i64 lq) := (hb6.cell (p := ⟨u5.heap.size, 1, none⟩) (by simp)).trans (by simp)
          have t2 : u6.cell? ⟨u5.heap.size, 2, none⟩ = some (.int .i64 lu) := (hb6.cell (p := ⟨u5.heap.size, 2, none⟩) (by simp)).trans (by simp)
          have t3 : u6.cell? ⟨u5.heap.size, 3, none⟩ = some (.int .i64 ll) := (hb6.cell (p := ⟨u5.heap.size, 3, none⟩) (by simp)).trans (by simp)
          have t4 : u6.cell? ⟨u5.heap.size, 4, none⟩ = some (.bool true) := (hb6.cell (p := ⟨u5.heap.size, 4, none⟩) (by simp)).trans (by simp)
          clear hb6 M5 r0 r1 r2 r3 r4
          go_wp2_with fail
          go_ret
          exact ⟨rfl, B6.out⟩

theorem own : ownKnob Try.prog.godebug = none := by kernel_rfl
theorem laidOut : laidOutB Try.prog = true := by kernel_rfl
set_option maxRecDepth 100000 in
theorem lifted (os : Os) (started : os.Started) (H : Type) (enc : TypeId × Value → H) :
    ReturnsInHanded {} Try.checked os 7 .any (Rows.quotaNeutralSpec.pre6 enc Try.prog Try.f7 Rows.quotaNeutralRow.domain false) (Rows.quotaNeutralSpec.post enc Try.prog Try.f7 false true false false) := by
  refine returnsInHanded_of_change (C := Try.checked) own started (by kernel_rfl) Try.func7
    (ChangeSpec.witness6 (enc := enc) (C := Try.checked) false ⟨#[], #[.int .i64 0, .slice none 0 0, .int .i64 0, .int .i64 0], []⟩ 8 (by kernel_rfl) (by kernel_rfl) (by kernel_rfl) (by kernel_rfl)) ?_
  intro W base args ds gs before hval0 hW hcnd _
  have hval : ∀ (j : Nat) t v, Try.f7.params[j]? = some t → args[j]? = some v → Value.okWide Try.prog W .any base t v := hval0
  have hW' := hW
  obtain ⟨p, q, hA0, hV, hbef, hfz, hnd⟩ := hW
  have hA : DataW.TrodAll enc Try.prog W 0 (fun _ => true) true Try.f7.params.toList args.toList ds p := hA0
  have hAk := hA
  have hlt : ∀ x ∈ p, x.block < W.heap.size := fun x hx => hW'.lt x (by rw [hbef]; exact List.mem_append_left _ hx)
  rw [Try.params7] at hA hval
  obtain ⟨v0, vs0, d0, ds0, p0, q0, hargs, rfl, hp0, h0, r0⟩ := trodAll_cons hA
  obtain ⟨v1, vs1, d1, ds1, p1, q1, rfl, rfl, hp1, h1, r1⟩ := trodAll_cons r0
  obtain ⟨v2, vs2, d2, ds2, p2, q2, rfl, rfl, hp2, h2, r2⟩ := trodAll_cons r1
  obtain ⟨v3, vs3, d3, ds3, p3, q3, rfl, rfl, hp3, h3, r3⟩ := trodAll_cons r2
  obtain ⟨rfl, rfl, hpz⟩ := trodAll_nil r3
  obtain rfl : args = #[v0, v1, v2, v3] := by cases args; simp_all
  obtain ⟨rfl, rfl⟩ := trodVars_none hV
  obtain ⟨a0, rfl, _, _, w0⟩ := open_int Try.underlying3 (hval 0 3 v0 rfl rfl) h0
  obtain ⟨p1, n1, c1, K1, I1, N1, rfl, m1, H1⟩ := open_acts (hval 1 22 v1 rfl rfl) h1
  obtain ⟨a2, rfl, _, _, w2⟩ := open_int Try.underlying3 (hval 2 3 v2 rfl rfl) h2
  obtain ⟨a3, rfl, _, _, w3⟩ := open_int Try.underlying3 (hval 3 3 v3 rfl rfl) h3
  clear hA0 hval0
  refine (walk a0 w0 p1 n1 c1 K1 I1 N1 m1 a2 w2 a3 w3 W H1).mono fun e W' ⟨he, hg⟩ => ?_
  subst he
  exact ⟨_, rfl, ⟨_, _, _, [], p, [], hW', (trodAll_cons_mk (shut_bool Try.underlying4 _) trodAll_mk0), args_stay laidOut hg (by kernel_rfl) hAk hlt, rfl, hg.frame _, fun h => by cases h⟩⟩

theorem over : Rows.quotaNeutralRow.holds Try.pinned (OpenSpec.ofChange Rows.quotaNeutralSpec) :=
  OpenClaim.holds_of_wide 7 Try.f7 rfl rfl rfl rfl rfl rfl rfl ⟨rfl, rfl, rfl, rfl, rfl⟩ rfl rfl rfl rfl rfl (by kernel_rfl) Try.func7 (by kernel_rfl)
    (of_decide_eq_true (by kernel_rfl)) (by unfold Func.isWrapper; first | (rw [if_pos (by decide +kernel)]; kernel_rfl) | (rw [if_neg (by decide +kernel)]; exact ⟨rfl, rfl⟩))
    (fun os started H enc _ => lifted os started H enc)

theorem proved : Rows.QuotaNeutralSaid :=
  over
#print axioms proved
end Go.Proofs.Ytppnobcbcjkccab.quotaNeutral
