/- For any number of frames, hole, address, size and number: a number that reaches into a hole or beyond the memory is neither loaded nor stored, any other one is; no condition. -/
import Derived.Test.YtfcdaoheljalfaaRows
import Derived.ProofKit
import Derived.OpenShut
import Derived.Carry
import Derived.Test.YtfcdaoheljalfaaRH
namespace Go.Proofs.Ytfcdaoheljalfaa.ramHoles
open Go.ChangeShapes Go.WideShapes Go.ChangeAt Go.RowKit Go.Maps
set_option linter.unusedSimpArgs false
set_option linter.unusedVariables false
/-- is the byte j behind an address one of the memory's? -/
def okj (a0 a1a a1b a2 : Int) (j : Nat) : Prop := a2 + j < 18446744073709551616 ∧ (a2 + j) / 4096 < a0 ∧ ¬ (a1a ≤ (a2 + j) / 4096 ∧ (a2 + j) / 4096 < a1b)
instance (a0 a1a a1b a2 : Int) (j : Nat) : Decidable (okj a0 a1a a1b a2 j) := by unfold okj; infer_instance
def goodB (a0 a1a a1b a2 : Int) : Nat → Bool
  | 0 => true
  | k + 1 => goodB a0 a1a a1b a2 k && decide (okj a0 a1a a1b a2 k)
theorem good_all (a0 a1a a1b a2 : Int) : ∀ k : Nat, goodB a0 a1a a1b a2 k = true ↔ ∀ j, j < k → okj a0 a1a a1b a2 j
  | 0 => by simp [goodB]
  | k + 1 => by
    rw [goodB, Bool.and_eq_true, good_all a0 a1a a1b a2 k, decide_eq_true_eq]
    constructor
    · intro h j hj
      by_cases e : j = k
      · subst e; exact h.2
      · exact h.1 j (by omega)
    · intro h
      exact ⟨fun j hj => h j (by omega), h k (by omega)⟩
theorem has_iff (a0 a1a a1b k : Int) (k0 : 0 ≤ k) : hasH a0 [(a1a, a1b)] k = true ↔ k < a0 ∧ ¬ (a1a ≤ k ∧ k < a1b) := by
  unfold hasH hasF inH
  simp
  omega
theorem chk_good (a0 a1a a1b a2 a3 : Int) (f1 : a0 ≤ 8) (hs : a3 = 1 ∨ a3 = 2 ∨ a3 = 4 ∨ a3 = 8) (u0 : 0 ≤ a2) : chkG (hasH a0 [(a1a, a1b)]) a2 a3 = if goodB a0 a1a a1b a2 a3.toNat then 0 else 2 := by
  unfold chkG
  rw [if_pos hs]
  by_cases h : goodB a0 a1a a1b a2 a3.toNat = true
  · rw [if_pos h]
    have g := (good_all a0 a1a a1b a2 a3.toNat).1 h
    have g0 := g 0 (by omega)
    have g1 := g (a3.toNat - 1) (by omega)
    unfold okj at g0 g1
    have e : (((a3.toNat - 1 : Nat) : Int)) = a3 - 1 := by omega
    rw [e] at g1
    have e2 : a2 + (a3 - 1) = a2 + a3 - 1 := by omega
    rw [e2] at g1
    have e3 : a2 + ((0 : Nat) : Int) = a2 := by omega
    rw [e3] at g0
    rw [if_pos ⟨by omega, (has_iff a0 a1a a1b _ (by omega)).2 g0.2, (has_iff a0 a1a a1b _ (by omega)).2 g1.2⟩]
  · rw [if_neg h, if_neg]
    intro hc
    apply h
    rw [good_all]
    intro j hj
    have h1 := (has_iff a0 a1a a1b _ (by omega)).1 hc.2.1
    have h2 := (has_iff a0 a1a a1b _ (by omega)).1 hc.2.2
    unfold okj
    have hj' : (j : Int) < a3 := by omega
    refine ⟨by omega, ?_⟩
    rcases (show (a2 + j) / 4096 = a2 / 4096 ∨ (a2 + j) / 4096 = (a2 + a3 - 1) / 4096 by omega) with e | e <;> rw [e]
    · exact h1
    · exact h2

set_option maxRecDepth 8000 in
set_option maxHeartbeats 8000000 in
theorem walk (a0 : Int) (w0 : (Lit.int .i64 a0).wf = true) (a1a a1b : Int) (w1a : (Lit.int .i64 a1a).wf = true) (w1b : (Lit.int .i64 a1b).wf = true) (a2 : Int) (w2 : (Lit.int .u64 a2).wf = true) (a3 : Int) (w3 : (Lit.int .i64 a3).wf = true) (a4 : Int) (w4 : (Lit.int .u64 a4).wf = true) (w : World) :
    Calls Try.prog 6 #[.int .i64 a0, .agg #[.int .i64 a1a, .int .i64 a1b], .int .u64 a2, .int .i64 a3, .int .u64 a4] w fun e w' => e = .returned (.bool true) ∧ Below w.heap.size w w' := by
  have u2 := wf_u64 w2
  have u4 := wf_u64 w4
  have AW : Hid (∀ w : World, Calls Try.prog 10 #[] w fun e w' => e = .returned (.bool true) ∧ Below w.heap.size w w') := awake_any
  by_cases g : 1 ≤ a0 ∧ a0 ≤ 8 ∧ 0 ≤ a1a ∧ a1a ≤ a1b ∧ a1b ≤ a0 ∧ (a3 = 1 ∨ a3 = 2 ∨ a3 = 4 ∨ a3 = 8)
  · obtain ⟨g1, g2, g3, g4, g5, g6⟩ := g
    clear w0 w1a w1b w2 w3 w4
    have hmx : (100 : Nat) < maxLen := by unfold maxLen; decide
    have hnil := nil_no
    have s0 : 1 ≤ a3 := by omega
    have s8 : a3 ≤ 8 := by omega
    obtain ⟨N, hN⟩ : ∃ N : Nat, (N : Int) = a3 := ⟨a3.toNat, by omega⟩
    have hck := chk_good a0 a1a a1b a2 a3 g2 g6 u2.1
    rw [show a3.toNat = N by omega] at hck
    have nw : Hid (∀ u : Unit, Calls Try.prog 8 #[.int .i64 a0, .slice (some ⟨w.heap.size + 1, 0, none⟩) 1 1] ((w.alloc (.cells #[.int .i64 a1a, .int .i64 a1b] 53)).alloc (.cells #[.int .i64 a1a, .int .i64 a1b] 53)) fun e w' => ∃ rb, e = .returned (.tuple #[.pointer (some ⟨rb, 0, none⟩), .int .i64 0]) ∧
        IsRam w' (w.heap.size + 2) rb (hasH a0 [(a1a, a1b)]) a0 (fun _ => 0) 0 ∧ Below (w.heap.size + 2) ((w.alloc (.cells #[.int .i64 a1a, .int .i64 a1b] 53)).alloc (.cells #[.int .i64 a1a, .int .i64 a1b] 53)) w') := by
      intro _
      have := new_holes a0 g1 (by omega) (w.heap.size + 1) 1 [(a1a, a1b)] ((w.alloc (.cells #[.int .i64 a1a, .int .i64 a1b] 53)).alloc (.cells #[.int .i64 a1a, .int .i64 a1b] 53)) (by simp) (by simp) (by
        intro j x hx
        have hj : j = 0 := by have := (List.getElem?_eq_some_iff.1 hx).1; simp at this; exact this
        subst hj; cases hx
        exact ⟨World.cell?_alloc_at _ _ _ _ (by simp), World.cell?_alloc_at _ _ _ _ (by simp)⟩) (by simp) (by
        intro j x hx
        have hj : j = 0 := by have := (List.getElem?_eq_some_iff.1 hx).1; simp at this; exact this
        subst hj; cases hx; exact ⟨g3, g4, g5⟩)
      simp only [World.size_alloc] at this
      exact this
    have t1 : (a3 == 1 || (a3 == 2 || (a3 == 4 || a3 == 8))) = true := by rcases g6 with e | e | e | e <;> rw [e] <;> rfl
    rcases g6 with rfl | rfl | rfl | rfl
    · obtain rfl : N = 1 := by omega
      clear t1
      go_enter Try.func6, Try.ntmps6
      go_wp2_with fail
      refine (nw.out ()).mono ?_
      rintro e v0 ⟨rb, rfl, hI, hb⟩
      have HI0 : Hid (IsRam v0 (w.heap.size + 2) rb (hasH a0 [(a1a, a1b)]) a0 (fun _ => 0) 0) := hI
      have HB0 : Hid (Below w.heap.size w v0) := (Go.Joins.below_alloc2 _ _ _).trans (hb.mono (by omega))
      have c0 : v0.cell? ⟨w.heap.size, 0, none⟩ = some (.int .i64 a1a) := cell_next hb (by omega) (by simp)
      have c1 : v0.cell? ⟨w.heap.size, 1, none⟩ = some (.int .i64 a1b) := cell_next hb (by omega) (by simp)
      clear hI hb nw
      go_wp2_with fail
      go_loop [13, 14] (fun g i => ∃ k : Nat, k ≤ 1 ∧ i = .int .i64 k ∧ g = .bool (goodB a0 a1a a1b a2 k)) (fun _ i => (8 - intOf i).toNat)
      case atStart => exact ⟨0, by omega, rfl, rfl⟩
      case round =>
        obtain ⟨k, hk, rfl, rfl⟩ := hrel
        by_cases hkN : k = 1
        · subst hkN
          cases gd : goodB a0 a1a a1b a2 1
          · skip
            have ck : chkG (hasH a0 [(a1a, a1b)]) a2 1 = 2 := by rw [hck, gd]; rfl
            have S1 : Hid (∀ rb : Nat, Hid _) := fun rb => se_at (B := w.heap.size + 2) (rb := rb) (has := hasH a0 [(a1a, a1b)]) (F := a0) (fun _ => 0) 0 a2 1 a4 2 u2.1 u2.2 ck (by omega)
            have L1 : Hid (∀ rb : Nat, Hid _) := fun rb => le_at (B := w.heap.size + 2) (rb := rb) (has := hasH a0 [(a1a, a1b)]) (F := a0) (fun _ => 0) 0 a2 1 2 u2.1 u2.2 ck (by omega)
            clear ck hck
            try rw [gd]
            clear gd
            go_wp2_with fail
            refine ((S1.out rb).out _ HI0.out).mono ?_
            rintro e v1 ⟨rfl, hI, hb⟩
            have HI1 : Hid (IsRam v1 (w.heap.size + 2) rb (hasH a0 [(a1a, a1b)]) a0 (fun _ => 0) 0) := hI
            have HB1 : Hid (Below w.heap.size w v1) := HB0.out.trans (hb.mono (by omega))
            clear hI hb
            go_wp2_with fail
            refine ((L1.out rb).out _ HI1.out).mono ?_
            rintro e v2 ⟨rfl, hI, hb⟩
            have HB2 : Hid (Below w.heap.size w v2) := HB1.out.trans (hb.mono (by omega))
            clear hI hb
            go_wp2_with fail
            refine (AW.out _).mono ?_
            rintro e u1 ⟨rfl, hb⟩
            have HB3 : Hid (Below w.heap.size w u1) := below_then HB2.out hb
            clear hb
            go_wp2_with fail
            go_ret
            exact ⟨by first | rfl | simp, HB3.out⟩
          · skip
            have ck : chkG (hasH a0 [(a1a, a1b)]) a2 1 = 0 := by rw [hck, gd]; rfl
            obtain ⟨M1, hM1⟩ : ∃ M1, mset (fun _ => 0) a2 1 a4 = M1 := ⟨_, rfl⟩
            obtain ⟨V, hV⟩ : ∃ V, ld M1 a2 (1 : Int).toNat = V := ⟨_, rfl⟩
            have S1 : Hid (∀ rb : Nat, Hid _) := fun rb => by have := st_at (B := w.heap.size + 2) (rb := rb) (has := hasH a0 [(a1a, a1b)]) (F := a0) (fun _ => 0) 0 a2 1 a4 (by omega) u2.1 u2.2 ck u4.1 u4.2; rw [hM1] at this; exact this
            have L1 : Hid (∀ rb : Nat, Hid _) := fun rb => ld_at (B := w.heap.size + 2) (rb := rb) (has := hasH a0 [(a1a, a1b)]) (F := a0) M1 (0 + 2) a2 1 V u2.1 u2.2 ck hV
            clear ck hV hck hM1
            try rw [gd]
            clear gd
            go_wp2_with fail
            refine ((S1.out rb).out _ HI0.out).mono ?_
            rintro e v1 ⟨rfl, hI, hb⟩
            have HI1 : Hid (IsRam v1 (w.heap.size + 2) rb (hasH a0 [(a1a, a1b)]) a0 M1 (0 + 2)) := hI
            have HB1 : Hid (Below w.heap.size w v1) := HB0.out.trans (hb.mono (by omega))
            clear hI hb
            go_wp2_with fail
            refine ((L1.out rb).out _ HI1.out).mono ?_
            rintro e v2 ⟨rfl, hI, hb⟩
            have HB2 : Hid (Below w.heap.size w v2) := HB1.out.trans (hb.mono (by omega))
            clear hI hb
            go_wp2_with fail
            refine (AW.out _).mono ?_
            rintro e u1 ⟨rfl, hb⟩
            have HB3 : Hid (Below w.heap.size w u1) := below_then HB2.out hb
            clear hb
            go_wp2_with fail
            go_ret
            exact ⟨by first | rfl | simp, HB3.out⟩
        · have hkl : (k : Int) < 1 := by omega
          have hkl' : k < 1 := by omega
          cases HG : goodB a0 a1a a1b a2 k
          · have G1 : Hid (goodB a0 a1a a1b a2 (k + 1) = false) := by
              show goodB a0 a1a a1b a2 (k + 1) = false
              rw [goodB, HG]; rfl
            clear HG
            go_wp2_with fail
            go_round
            case rel => exact ⟨k + 1, by omega, by simp, by rw [G1.out]⟩
            case measure => simp [intOf]; omega
          · by_cases q1 : a2 + k < 18446744073709551616
            · have hw : IntKind.u64.wrap (a2 + k) = a2 + k := by rw [IntKind.wrap_u64]; omega
              by_cases q2 : (a2 + k) / 4096 < a0
              · by_cases q3 : a1a ≤ (a2 + k) / 4096
                · by_cases q4 : (a2 + k) / 4096 < a1b
                  · skip
                    have G1 : Hid (goodB a0 a1a a1b a2 (k + 1) = false) := by
                      show goodB a0 a1a a1b a2 (k + 1) = false
                      rw [goodB, HG, Bool.true_and]
                      exact decide_eq_false (by unfold okj; omega)
                    clear HG
                    go_wp2_with fail
                    go_round
                    case rel => exact ⟨k + 1, by omega, by simp, by rw [G1.out]⟩
                    case measure => simp [intOf]; omega
                  · skip
                    have G1 : Hid (goodB a0 a1a a1b a2 (k + 1) = true) := by
                      show goodB a0 a1a a1b a2 (k + 1) = true
                      rw [goodB, HG, Bool.true_and]
                      exact decide_eq_true (by unfold okj; omega)
                    clear HG
                    go_wp2_with fail
                    go_round
                    case rel => exact ⟨k + 1, by omega, by simp, by rw [G1.out]⟩
                    case measure => simp [intOf]; omega
                · skip
                  have G1 : Hid (goodB a0 a1a a1b a2 (k + 1) = true) := by
                    show goodB a0 a1a a1b a2 (k + 1) = true
                    rw [goodB, HG, Bool.true_and]
                    exact decide_eq_true (by unfold okj; omega)
                  clear HG
                  go_wp2_with fail
                  go_round
                  case rel => exact ⟨k + 1, by omega, by simp, by rw [G1.out]⟩
                  case measure => simp [intOf]; omega
              · skip
                have G1 : Hid (goodB a0 a1a a1b a2 (k + 1) = false) := by
                  show goodB a0 a1a a1b a2 (k + 1) = false
                  rw [goodB, HG, Bool.true_and]
                  exact decide_eq_false (by unfold okj; omega)
                clear HG
                go_wp2_with fail
                go_round
                case rel => exact ⟨k + 1, by omega, by simp, by rw [G1.out]⟩
                case measure => simp [intOf]; omega
            · exfalso; omega
    · obtain rfl : N = 2 := by omega
      clear t1
      go_enter Try.func6, Try.ntmps6
      go_wp2_with fail
      refine (nw.out ()).mono ?_
      rintro e v0 ⟨rb, rfl, hI, hb⟩
      have HI0 : Hid (IsRam v0 (w.heap.size + 2) rb (hasH a0 [(a1a, a1b)]) a0 (fun _ => 0) 0) := hI
      have HB0 : Hid (Below w.heap.size w v0) := (Go.Joins.below_alloc2 _ _ _).trans (hb.mono (by omega))
      have c0 : v0.cell? ⟨w.heap.size, 0, none⟩ = some (.int .i64 a1a) := cell_next hb (by omega) (by simp)
      have c1 : v0.cell? ⟨w.heap.size, 1, none⟩ = some (.int .i64 a1b) := cell_next hb (by omega) (by simp)
      clear hI hb nw
      go_wp2_with fail
      go_loop [13, 14] (fun g i => ∃ k : Nat, k ≤ 2 ∧ i = .int .i64 k ∧ g = .bool (goodB a0 a1a a1b a2 k)) (fun _ i => (8 - intOf i).toNat)
      case atStart => exact ⟨0, by omega, rfl, rfl⟩
      case round =>
        obtain ⟨k, hk, rfl, rfl⟩ := hrel
        by_cases hkN : k = 2
        · subst hkN
          cases gd : goodB a0 a1a a1b a2 2
          · skip
            have ck : chkG (hasH a0 [(a1a, a1b)]) a2 2 = 2 := by rw [hck, gd]; rfl
            have S1 : Hid (∀ rb : Nat, Hid _) := fun rb => se_at (B := w.heap.size + 2) (rb := rb) (has := hasH a0 [(a1a, a1b)]) (F := a0) (fun _ => 0) 0 a2 2 a4 2 u2.1 u2.2 ck (by omega)
            have L1 : Hid (∀ rb : Nat, Hid _) := fun rb => le_at (B := w.heap.size + 2) (rb := rb) (has := hasH a0 [(a1a, a1b)]) (F := a0) (fun _ => 0) 0 a2 2 2 u2.1 u2.2 ck (by omega)
            clear ck hck
            try rw [gd]
            clear gd
            go_wp2_with fail
            refine ((S1.out rb).out _ HI0.out).mono ?_
            rintro e v1 ⟨rfl, hI, hb⟩
            have HI1 : Hid (IsRam v1 (w.heap.size + 2) rb (hasH a0 [(a1a, a1b)]) a0 (fun _ => 0) 0) := hI
            have HB1 : Hid (Below w.heap.size w v1) := HB0.out.trans (hb.mono (by omega))
            clear hI hb
            go_wp2_with fail
            refine ((L1.out rb).out _ HI1.out).mono ?_
            rintro e v2 ⟨rfl, hI, hb⟩
            have HB2 : Hid (Below w.heap.size w v2) := HB1.out.trans (hb.mono (by omega))
            clear hI hb
            go_wp2_with fail
            refine (AW.out _).mono ?_
            rintro e u1 ⟨rfl, hb⟩
            have HB3 : Hid (Below w.heap.size w u1) := below_then HB2.out hb
            clear hb
            go_wp2_with fail
            go_ret
            exact ⟨by first | rfl | simp, HB3.out⟩
          · skip
            have ck : chkG (hasH a0 [(a1a, a1b)]) a2 2 = 0 := by rw [hck, gd]; rfl
            obtain ⟨M1, hM1⟩ : ∃ M1, mset (fun _ => 0) a2 2 a4 = M1 := ⟨_, rfl⟩
            obtain ⟨V, hV⟩ : ∃ V, ld M1 a2 (2 : Int).toNat = V := ⟨_, rfl⟩
            have S1 : Hid (∀ rb : Nat, Hid _) := fun rb => by have := st_at (B := w.heap.size + 2) (rb := rb) (has := hasH a0 [(a1a, a1b)]) (F := a0) (fun _ => 0) 0 a2 2 a4 (by omega) u2.1 u2.2 ck u4.1 u4.2; rw [hM1] at this; exact this
            have L1 : Hid (∀ rb : Nat, Hid _) := fun rb => ld_at (B := w.heap.size + 2) (rb := rb) (has := hasH a0 [(a1a, a1b)]) (F := a0) M1 (0 + 2) a2 2 V u2.1 u2.2 ck hV
            clear ck hV hck hM1
            try rw [gd]
            clear gd
            go_wp2_with fail
            refine ((S1.out rb).out _ HI0.out).mono ?_
            rintro e v1 ⟨rfl, hI, hb⟩
            have HI1 : Hid (IsRam v1 (w.heap.size + 2) rb (hasH a0 [(a1a, a1b)]) a0 M1 (0 + 2)) := hI
            have HB1 : Hid (Below w.heap.size w v1) := HB0.out.trans (hb.mono (by omega))
            clear hI hb
            go_wp2_with fail
            refine ((L1.out rb).out _ HI1.out).mono ?_
            rintro e v2 ⟨rfl, hI, hb⟩
            have HB2 : Hid (Below w.heap.size w v2) := HB1.out.trans (hb.mono (by omega))
            clear hI hb
            go_wp2_with fail
            refine (AW.out _).mono ?_
            rintro e u1 ⟨rfl, hb⟩
            have HB3 : Hid (Below w.heap.size w u1) := below_then HB2.out hb
            clear hb
            go_wp2_with fail
            go_ret
            exact ⟨by first | rfl | simp, HB3.out⟩
        · have hkl : (k : Int) < 2 := by omega
          have hkl' : k < 2 := by omega
          cases HG : goodB a0 a1a a1b a2 k
          · have G1 : Hid (goodB a0 a1a a1b a2 (k + 1) = false) := by
              show goodB a0 a1a a1b a2 (k + 1) = false
              rw [goodB, HG]; rfl
            clear HG
            go_wp2_with fail
            go_round
            case rel => exact ⟨k + 1, by omega, by simp, by rw [G1.out]⟩
            case measure => simp [intOf]; omega
          · by_cases q1 : a2 + k < 18446744073709551616
            · have hw : IntKind.u64.wrap (a2 + k) = a2 + k := by rw [IntKind.wrap_u64]; omega
              by_cases q2 : (a2 + k) / 4096 < a0
              · by_cases q3 : a1a ≤ (a2 + k) / 4096
                · by_cases q4 : (a2 + k) / 4096 < a1b
                  · skip
                    have G1 : Hid (goodB a0 a1a a1b a2 (k + 1) = false) := by
                      show goodB a0 a1a a1b a2 (k + 1) = false
                      rw [goodB, HG, Bool.true_and]
                      exact decide_eq_false (by unfold okj; omega)
                    clear HG
                    go_wp2_with fail
                    go_round
                    case rel => exact ⟨k + 1, by omega, by simp, by rw [G1.out]⟩
                    case measure => simp [intOf]; omega
                  · skip
                    have G1 : Hid (goodB a0 a1a a1b a2 (k + 1) = true) := by
                      show goodB a0 a1a a1b a2 (k + 1) = true
                      rw [goodB, HG, Bool.true_and]
                      exact decide_eq_true (by unfold okj; omega)
                    clear HG
                    go_wp2_with fail
                    go_round
                    case rel => exact ⟨k + 1, by omega, by simp, by rw [G1.out]⟩
                    case measure => simp [intOf]; omega
                · skip
                  have G1 : Hid (goodB a0 a1a a1b a2 (k + 1) = true) := by
                    show goodB a0 a1a a1b a2 (k + 1) = true
                    rw [goodB, HG, Bool.true_and]
                    exact decide_eq_true (by unfold okj; omega)
                  clear HG
                  go_wp2_with fail
                  go_round
                  case rel => exact ⟨k + 1, by omega, by simp, by rw [G1.out]⟩
                  case measure => simp [intOf]; omega
              · skip
                have G1 : Hid (goodB a0 a1a a1b a2 (k + 1) = false) := by
                  show goodB a0 a1a a1b a2 (k + 1) = false
                  rw [goodB, HG, Bool.true_and]
                  exact decide_eq_false (by unfold okj; omega)
                clear HG
                go_wp2_with fail
                go_round
                case rel => exact ⟨k + 1, by omega, by simp, by rw [G1.out]⟩
                case measure => simp [intOf]; omega
            · have hw : IntKind.u64.wrap (a2 + k) = a2 + k - 18446744073709551616 := by rw [IntKind.wrap_u64]; omega
              have hl : a2 + k - 18446744073709551616 < a2 := by omega
              have G1 : Hid (goodB a0 a1a a1b a2 (k + 1) = false) := by
                show goodB a0 a1a a1b a2 (k + 1) = false
                rw [goodB, HG, Bool.true_and]
                exact decide_eq_false (by unfold okj; omega)
              clear HG
              go_wp2_with fail
              go_round
              case rel => exact ⟨k + 1, by omega, by simp, by rw [G1.out]⟩
              case measure => simp [intOf]; omega
    · obtain rfl : N = 4 := by omega
      clear t1
      go_enter Try.func6, Try.ntmps6
      go_wp2_with fail
      refine (nw.out ()).mono ?_
      rintro e v0 ⟨rb, rfl, hI, hb⟩
      have HI0 : Hid (IsRam v0 (w.heap.size + 2) rb (hasH a0 [(a1a, a1b)]) a0 (fun _ => 0) 0) := hI
      have HB0 : Hid (Below w.heap.size w v0) := (Go.Joins.below_alloc2 _ _ _).trans (hb.mono (by omega))
      have c0 : v0.cell? ⟨w.heap.size, 0, none⟩ = some (.int .i64 a1a) := cell_next hb (by omega) (by simp)
      have c1 : v0.cell? ⟨w.heap.size, 1, none⟩ = some (.int .i64 a1b) := cell_next hb (by omega) (by simp)
      clear hI hb nw
      go_wp2_with fail
      go_loop [13, 14] (fun g i => ∃ k : Nat, k ≤ 4 ∧ i = .int .i64 k ∧ g = .bool (goodB a0 a1a a1b a2 k)) (fun _ i => (8 - intOf i).toNat)
      case atStart => exact ⟨0, by omega, rfl, rfl⟩
      case round =>
        obtain ⟨k, hk, rfl, rfl⟩ := hrel
        by_cases hkN : k = 4
        · subst hkN
          cases gd : goodB a0 a1a a1b a2 4
          · skip
            have ck : chkG (hasH a0 [(a1a, a1b)]) a2 4 = 2 := by rw [hck, gd]; rfl
            have S1 : Hid (∀ rb : Nat, Hid _) := fun rb => se_at (B := w.heap.size + 2) (rb := rb) (has := hasH a0 [(a1a, a1b)]) (F := a0) (fun _ => 0) 0 a2 4 a4 2 u2.1 u2.2 ck (by omega)
            have L1 : Hid (∀ rb : Nat, Hid _) := fun rb => le_at (B := w.heap.size + 2) (rb := rb) (has := hasH a0 [(a1a, a1b)]) (F := a0) (fun _ => 0) 0 a2 4 2 u2.1 u2.2 ck (by omega)
            clear ck hck
            try rw [gd]
            clear gd
            go_wp2_with fail
            refine ((S1.out rb).out _ HI0.out).mono ?_
            rintro e v1 ⟨rfl, hI, hb⟩
            have HI1 : Hid (IsRam v1 (w.heap.size + 2) rb (hasH a0 [(a1a, a1b)]) a0 (fun _ => 0) 0) := hI
            have HB1 : Hid (Below w.heap.size w v1) := HB0.out.trans (hb.mono (by omega))
            clear hI hb
            go_wp2_with fail
            refine ((L1.out rb).out _ HI1.out).mono ?_
            rintro e v2 ⟨rfl, hI, hb⟩
            have HB2 : Hid (Below w.heap.size w v2) := HB1.out.trans (hb.mono (by omega))
            clear hI hb
            go_wp2_with fail
            refine (AW.out _).mono ?_
            rintro e u1 ⟨rfl, hb⟩
            have HB3 : Hid (Below w.heap.size w u1) := below_then HB2.out hb
            clear hb
            go_wp2_with fail
            go_ret
            exact ⟨by first | rfl | simp, HB3.out⟩
          · skip
            have ck : chkG (hasH a0 [(a1a, a1b)]) a2 4 = 0 := by rw [hck, gd]; rfl
            obtain ⟨M1, hM1⟩ : ∃ M1, mset (fun _ => 0) a2 4 a4 = M1 := ⟨_, rfl⟩
            obtain ⟨V, hV⟩ : ∃ V, ld M1 a2 (4 : Int).toNat = V := ⟨_, rfl⟩
            have S1 : Hid (∀ rb : Nat, Hid _) := fun rb => by have := st_at (B := w.heap.size + 2) (rb := rb) (has := hasH a0 [(a1a, a1b)]) (F := a0) (fun _ => 0) 0 a2 4 a4 (by omega) u2.1 u2.2 ck u4.1 u4.2; rw [hM1] at this; exact this
            have L1 : Hid (∀ rb : Nat, Hid _) := fun rb => ld_at (B := w.heap.size + 2) (rb := rb) (has := hasH a0 [(a1a, a1b)]) (F := a0) M1 (0 + 2) a2 4 V u2.1 u2.2 ck hV
            clear ck hV hck hM1
            try rw [gd]
            clear gd
            go_wp2_with fail
            refine ((S1.out rb).out _ HI0.out).mono ?_
            rintro e v1 ⟨rfl, hI, hb⟩
            have HI1 : Hid (IsRam v1 (w.heap.size + 2) rb (hasH a0 [(a1a, a1b)]) a0 M1 (0 + 2)) := hI
            have HB1 : Hid (Below w.heap.size w v1) := HB0.out.trans (hb.mono (by omega))
            clear hI hb
            go_wp2_with fail
            refine ((L1.out rb).out _ HI1.out).mono ?_
            rintro e v2 ⟨rfl, hI, hb⟩
            have HB2 : Hid (Below w.heap.size w v2) := HB1.out.trans (hb.mono (by omega))
            clear hI hb
            go_wp2_with fail
            refine (AW.out _).mono ?_
            rintro e u1 ⟨rfl, hb⟩
            have HB3 : Hid (Below w.heap.size w u1) := below_then HB2.out hb
            clear hb
            go_wp2_with fail
            go_ret
            exact ⟨by first | rfl | simp, HB3.out⟩
        · have hkl : (k : Int) < 4 := by omega
          have hkl' : k < 4 := by omega
          cases HG : goodB a0 a1a a1b a2 k
          · have G1 : Hid (goodB a0 a1a a1b a2 (k + 1) = false) := by
              show goodB a0 a1a a1b a2 (k + 1) = false
              rw [goodB, HG]; rfl
            clear HG
            go_wp2_with fail
            go_round
            case rel => exact ⟨k + 1, by omega, by simp, by rw [G1.out]⟩
            case measure => simp [intOf]; omega
          · by_cases q1 : a2 + k < 18446744073709551616
            · have hw : IntKind.u64.wrap (a2 + k) = a2 + k := by rw [IntKind.wrap_u64]; omega
              by_cases q2 : (a2 + k) / 4096 < a0
              · by_cases q3 : a1a ≤ (a2 + k) / 4096
                · by_cases q4 : (a2 + k) / 4096 < a1b
                  · skip
                    have G1 : Hid (goodB a0 a1a a1b a2 (k + 1) = false) := by
                      show goodB a0 a1a a1b a2 (k + 1) = false
                      rw [goodB, HG, Bool.true_and]
                      exact decide_eq_false (by unfold okj; omega)
                    clear HG
                    go_wp2_with fail
                    go_round
                    case rel => exact ⟨k + 1, by omega, by simp, by rw [G1.out]⟩
                    case measure => simp [intOf]; omega
                  · skip
                    have G1 : Hid (goodB a0 a1a a1b a2 (k + 1) = true) := by
                      show goodB a0 a1a a1b a2 (k + 1) = true
                      rw [goodB, HG, Bool.true_and]
                      exact decide_eq_true (by unfold okj; omega)
                    clear HG
                    go_wp2_with fail
                    go_round
                    case rel => exact ⟨k + 1, by omega, by simp, by rw [G1.out]⟩
                    case measure => simp [intOf]; omega
                · skip
                  have G1 : Hid (goodB a0 a1a a1b a2 (k + 1) = true) := by
                    show goodB a0 a1a a1b a2 (k + 1) = true
                    rw [goodB, HG, Bool.true_and]
                    exact decide_eq_true (by unfold okj; omega)
                  clear HG
                  go_wp2_with fail
                  go_round
                  case rel => exact ⟨k + 1, by omega, by simp, by rw [G1.out]⟩
                  case measure => simp [intOf]; omega
              · skip
                have G1 : Hid (goodB a0 a1a a1b a2 (k + 1) = false) := by
                  show goodB a0 a1a a1b a2 (k + 1) = false
                  rw [goodB, HG, Bool.true_and]
                  exact decide_eq_false (by unfold okj; omega)
                clear HG
                go_wp2_with fail
                go_round
                case rel => exact ⟨k + 1, by omega, by simp, by rw [G1.out]⟩
                case measure => simp [intOf]; omega
            · have hw : IntKind.u64.wrap (a2 + k) = a2 + k - 18446744073709551616 := by rw [IntKind.wrap_u64]; omega
              have hl : a2 + k - 18446744073709551616 < a2 := by omega
              have G1 : Hid (goodB a0 a1a a1b a2 (k + 1) = false) := by
                show goodB a0 a1a a1b a2 (k + 1) = false
                rw [goodB, HG, Bool.true_and]
                exact decide_eq_false (by unfold okj; omega)
              clear HG
              go_wp2_with fail
              go_round
              case rel => exact ⟨k + 1, by omega, by simp, by rw [G1.out]⟩
              case measure => simp [intOf]; omega
    · obtain rfl : N = 8 := by omega
      clear t1
      go_enter Try.func6, Try.ntmps6
      go_wp2_with fail
      refine (nw.out ()).mono ?_
      rintro e v0 ⟨rb, rfl, hI, hb⟩
      have HI0 : Hid (IsRam v0 (w.heap.size + 2) rb (hasH a0 [(a1a, a1b)]) a0 (fun _ => 0) 0) := hI
      have HB0 : Hid (Below w.heap.size w v0) := (Go.Joins.below_alloc2 _ _ _).trans (hb.mono (by omega))
      have c0 : v0.cell? ⟨w.heap.size, 0, none⟩ = some (.int .i64 a1a) := cell_next hb (by omega) (by simp)
      have c1 : v0.cell? ⟨w.heap.size, 1, none⟩ = some (.int .i64 a1b) := cell_next hb (by omega) (by simp)
      clear hI hb nw
      go_wp2_with fail
      go_loop [13, 14] (fun g i => ∃ k : Nat, k ≤ 8 ∧ i = .int .i64 k ∧ g = .bool (goodB a0 a1a a1b a2 k)) (fun _ i => (8 - intOf i).toNat)
      case atStart => exact ⟨0, by omega, rfl, rfl⟩
      case round =>
        obtain ⟨k, hk, rfl, rfl⟩ := hrel
        by_cases hkN : k = 8
        · subst hkN
          cases gd : goodB a0 a1a a1b a2 8
          · skip
            have ck : chkG (hasH a0 [(a1a, a1b)]) a2 8 = 2 := by rw [hck, gd]; rfl
            have S1 : Hid (∀ rb : Nat, Hid _) := fun rb => se_at (B := w.heap.size + 2) (rb := rb) (has := hasH a0 [(a1a, a1b)]) (F := a0) (fun _ => 0) 0 a2 8 a4 2 u2.1 u2.2 ck (by omega)
            have L1 : Hid (∀ rb : Nat, Hid _) := fun rb => le_at (B := w.heap.size + 2) (rb := rb) (has := hasH a0 [(a1a, a1b)]) (F := a0) (fun _ => 0) 0 a2 8 2 u2.1 u2.2 ck (by omega)
            clear ck hck
            try rw [gd]
            clear gd
            go_wp2_with fail
            refine ((S1.out rb).out _ HI0.out).mono ?_
            rintro e v1 ⟨rfl, hI, hb⟩
            have HI1 : Hid (IsRam v1 (w.heap.size + 2) rb (hasH a0 [(a1a, a1b)]) a0 (fun _ => 0) 0) := hI
            have HB1 : Hid (Below w.heap.size w v1) := HB0.out.trans (hb.mono (by omega))
            clear hI hb
            go_wp2_with fail
            refine ((L1.out rb).out _ HI1.out).mono ?_
            rintro e v2 ⟨rfl, hI, hb⟩
            have HB2 : Hid (Below w.heap.size w v2) := HB1.out.trans (hb.mono (by omega))
            clear hI hb
            go_wp2_with fail
            refine (AW.out _).mono ?_
            rintro e u1 ⟨rfl, hb⟩
            have HB3 : Hid (Below w.heap.size w u1) := below_then HB2.out hb
            clear hb
            go_wp2_with fail
            go_ret
            exact ⟨by first | rfl | simp, HB3.out⟩
          · skip
            have ck : chkG (hasH a0 [(a1a, a1b)]) a2 8 = 0 := by rw [hck, gd]; rfl
            obtain ⟨M1, hM1⟩ : ∃ M1, mset (fun _ => 0) a2 8 a4 = M1 := ⟨_, rfl⟩
            obtain ⟨V, hV⟩ : ∃ V, ld M1 a2 (8 : Int).toNat = V := ⟨_, rfl⟩
            have S1 : Hid (∀ rb : Nat, Hid _) := fun rb => by have := st_at (B := w.heap.size + 2) (rb := rb) (has := hasH a0 [(a1a, a1b)]) (F := a0) (fun _ => 0) 0 a2 8 a4 (by omega) u2.1 u2.2 ck u4.1 u4.2; rw [hM1] at this; exact this
            have L1 : Hid (∀ rb : Nat, Hid _) := fun rb => ld_at (B := w.heap.size + 2) (rb := rb) (has := hasH a0 [(a1a, a1b)]) (F := a0) M1 (0 + 2) a2 8 V u2.1 u2.2 ck hV
            clear ck hV hck hM1
            try rw [gd]
            clear gd
            go_wp2_with fail
            refine ((S1.out rb).out _ HI0.out).mono ?_
            rintro e v1 ⟨rfl, hI, hb⟩
            have HI1 : Hid (IsRam v1 (w.heap.size + 2) rb (hasH a0 [(a1a, a1b)]) a0 M1 (0 + 2)) := hI
            have HB1 : Hid (Below w.heap.size w v1) := HB0.out.trans (hb.mono (by omega))
            clear hI hb
            go_wp2_with fail
            refine ((L1.out rb).out _ HI1.out).mono ?_
            rintro e v2 ⟨rfl, hI, hb⟩
            have HB2 : Hid (Below w.heap.size w v2) := HB1.out.trans (hb.mono (by omega))
            clear hI hb
            go_wp2_with fail
            refine (AW.out _).mono ?_
            rintro e u1 ⟨rfl, hb⟩
            have HB3 : Hid (Below w.heap.size w u1) := below_then HB2.out hb
            clear hb
            go_wp2_with fail
            go_ret
            exact ⟨by first | rfl | simp, HB3.out⟩
        · have hkl : (k : Int) < 8 := by omega
          have hkl' : k < 8 := by omega
          cases HG : goodB a0 a1a a1b a2 k
          · have G1 : Hid (goodB a0 a1a a1b a2 (k + 1) = false) := by
              show goodB a0 a1a a1b a2 (k + 1) = false
              rw [goodB, HG]; rfl
            clear HG
            go_wp2_with fail
            go_round
            case rel => exact ⟨k + 1, by omega, by simp, by rw [G1.out]⟩
            case measure => simp [intOf]; omega
          · by_cases q1 : a2 + k < 18446744073709551616
            · have hw : IntKind.u64.wrap (a2 + k) = a2 + k := by rw [IntKind.wrap_u64]; omega
              by_cases q2 : (a2 + k) / 4096 < a0
              · by_cases q3 : a1a ≤ (a2 + k) / 4096
                · by_cases q4 : (a2 + k) / 4096 < a1b
                  · skip
                    have G1 : Hid (goodB a0 a1a a1b a2 (k + 1) = false) := by
                      show goodB a0 a1a a1b a2 (k + 1) = false
                      rw [goodB, HG, Bool.true_and]
                      exact decide_eq_false (by unfold okj; omega)
                    clear HG
                    go_wp2_with fail
                    go_round
                    case rel => exact ⟨k + 1, by omega, by simp, by rw [G1.out]⟩
                    case measure => simp [intOf]; omega
                  · skip
                    have G1 : Hid (goodB a0 a1a a1b a2 (k + 1) = true) := by
                      show goodB a0 a1a a1b a2 (k + 1) = true
                      rw [goodB, HG, Bool.true_and]
                      exact decide_eq_true (by unfold okj; omega)
                    clear HG
                    go_wp2_with fail
                    go_round
                    case rel => exact ⟨k + 1, by omega, by simp, by rw [G1.out]⟩
                    case measure => simp [intOf]; omega
                · skip
                  have G1 : Hid (goodB a0 a1a a1b a2 (k + 1) = true) := by
                    show goodB a0 a1a a1b a2 (k + 1) = true
                    rw [goodB, HG, Bool.true_and]
                    exact decide_eq_true (by unfold okj; omega)
                  clear HG
                  go_wp2_with fail
                  go_round
                  case rel => exact ⟨k + 1, by omega, by simp, by rw [G1.out]⟩
                  case measure => simp [intOf]; omega
              · skip
                have G1 : Hid (goodB a0 a1a a1b a2 (k + 1) = false) := by
                  show goodB a0 a1a a1b a2 (k + 1) = false
                  rw [goodB, HG, Bool.true_and]
                  exact decide_eq_false (by unfold okj; omega)
                clear HG
                go_wp2_with fail
                go_round
                case rel => exact ⟨k + 1, by omega, by simp, by rw [G1.out]⟩
                case measure => simp [intOf]; omega
            · have hw : IntKind.u64.wrap (a2 + k) = a2 + k - 18446744073709551616 := by rw [IntKind.wrap_u64]; omega
              have hl : a2 + k - 18446744073709551616 < a2 := by omega
              have G1 : Hid (goodB a0 a1a a1b a2 (k + 1) = false) := by
                show goodB a0 a1a a1b a2 (k + 1) = false
                rw [goodB, HG, Bool.true_and]
                exact decide_eq_false (by unfold okj; omega)
              clear HG
              go_wp2_with fail
              go_round
              case rel => exact ⟨k + 1, by omega, by simp, by rw [G1.out]⟩
              case measure => simp [intOf]; omega
  · clear w0 w1a w1b w2 w3 w4
    have GG : Hid (¬ (1 ≤ a0 ∧ a0 ≤ 8 ∧ 0 ≤ a1a ∧ a1a ≤ a1b ∧ a1b ≤ a0 ∧ (a3 = 1 ∨ a3 = 2 ∨ a3 = 4 ∨ a3 = 8))) := g
    clear g
    go_enter Try.func6, Try.ntmps6
    go_wp2_with fail
    all_goals first
      | (refine (AW.out _).mono ?_
         rintro e u1 ⟨rfl, hb⟩
         go_wp2_with fail
         go_ret
         exact ⟨rfl, below_then (Go.Joins.below_alloc1 _ _) hb⟩)
      | (exfalso
         go_light
         try simp only [bne_eq_false_iff_eq] at *
         have gg : ¬ (1 ≤ a0 ∧ a0 ≤ 8 ∧ 0 ≤ a1a ∧ a1a ≤ a1b ∧ a1b ≤ a0 ∧ (a3 = 1 ∨ a3 = 2 ∨ a3 = 4 ∨ a3 = 8)) := GG.out
         omega)

theorem own : ownKnob Try.prog.godebug = none := by kernel_rfl
theorem laidOut : laidOutB Try.prog = true := by kernel_rfl
set_option maxRecDepth 100000 in
theorem lifted (os : Os) (started : os.Started) (H : Type) (enc : TypeId × Value → H) :
    ReturnsInHanded {} Try.checked os 6 .any (Rows.ramHolesSpec.pre6 enc Try.prog Try.f6 Rows.ramHolesRow.domain false) (Rows.ramHolesSpec.post enc Try.prog Try.f6 false true false false) := by
  refine returnsInHanded_of_change (C := Try.checked) own started (by kernel_rfl) Try.func6
    (ChangeSpec.witness6 (enc := enc) (C := Try.checked) false ⟨#[], #[.int .i64 0, .agg #[.int .i64 0, .int .i64 0], .int .u64 0, .int .i64 0, .int .u64 0], []⟩ 8 (by kernel_rfl) (by kernel_rfl) (by kernel_rfl) (by kernel_rfl)) ?_
  intro W base args ds gs before hval0 hW hcnd _
  have hval : ∀ (j : Nat) t v, Try.f6.params[j]? = some t → args[j]? = some v → Value.okWide Try.prog W .any base t v := hval0
  have hW' := hW
  obtain ⟨p, q, hA0, hV, hbef, hfz, hnd⟩ := hW
  have hA : DataW.TrodAll enc Try.prog W 0 (fun _ => true) true Try.f6.params.toList args.toList ds p := hA0
  have hAk := hA
  have hlt : ∀ x ∈ p, x.block < W.heap.size := fun x hx => hW'.lt x (by rw [hbef]; exact List.mem_append_left _ hx)
  rw [Try.params6] at hA hval
  obtain ⟨v0, vs0, d0, ds0, p0, q0, hargs, rfl, hp0, h0, r0⟩ := trodAll_cons hA
  obtain ⟨v1, vs1, d1, ds1, p1, q1, rfl, rfl, hp1, h1, r1⟩ := trodAll_cons r0
  obtain ⟨v2, vs2, d2, ds2, p2, q2, rfl, rfl, hp2, h2, r2⟩ := trodAll_cons r1
  obtain ⟨v3, vs3, d3, ds3, p3, q3, rfl, rfl, hp3, h3, r3⟩ := trodAll_cons r2
  obtain ⟨v4, vs4, d4, ds4, p4, q4, rfl, rfl, hp4, h4, r4⟩ := trodAll_cons r3
  obtain ⟨rfl, rfl, hpz⟩ := trodAll_nil r4
  obtain rfl : args = #[v0, v1, v2, v3, v4] := by cases args; simp_all
  obtain ⟨rfl, rfl⟩ := trodVars_none hV
  obtain ⟨a0, rfl, _, _, w0⟩ := open_int Try.underlying3 (hval 0 3 v0 rfl rfl) h0
  obtain ⟨a1a, a1b, rfl, w1a, w1b⟩ := open_range (hval 1 53 v1 rfl rfl) h1
  obtain ⟨a2, rfl, _, _, w2⟩ := open_int Try.underlying38 (hval 2 38 v2 rfl rfl) h2
  obtain ⟨a3, rfl, _, _, w3⟩ := open_int Try.underlying3 (hval 3 3 v3 rfl rfl) h3
  obtain ⟨a4, rfl, _, _, w4⟩ := open_int Try.underlying38 (hval 4 38 v4 rfl rfl) h4
  clear hA0 hval0
  refine (walk a0 w0 a1a a1b w1a w1b a2 w2 a3 w3 a4 w4 W).mono fun e W' ⟨he, hg⟩ => ?_
  subst he
  exact ⟨_, rfl, ⟨_, _, _, [], p, [], hW', (trodAll_cons_mk (shut_bool Try.underlying4 _) trodAll_mk0), args_stay laidOut hg (by kernel_rfl) hAk hlt, rfl, hg.frame _, fun h => by cases h⟩⟩

theorem over : Rows.ramHolesRow.holds Try.pinned (OpenSpec.ofChange Rows.ramHolesSpec) :=
  OpenClaim.holds_of_wide 6 Try.f6 rfl rfl rfl rfl rfl rfl rfl ⟨rfl, rfl, rfl, rfl, rfl⟩ rfl rfl rfl rfl rfl (by kernel_rfl) Try.func6 (by kernel_rfl)
    (of_decide_eq_true (by kernel_rfl)) (by unfold Func.isWrapper; first | (rw [if_pos (by decide +kernel)]; kernel_rfl) | (rw [if_neg (by decide +kernel)]; exact ⟨rfl, rfl⟩))
    (fun os started H enc _ => lifted os started H enc)

theorem proved : Rows.RamHolesSaid :=
  over
#print axioms proved
end Go.Proofs.Ytfcdaoheljalfaa.ramHoles
