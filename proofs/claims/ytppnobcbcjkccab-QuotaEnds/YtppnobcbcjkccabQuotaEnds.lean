/- For any root and any calls: when everything is given back and all children are gone, in whatever order that goes, the root may have all again; behind any 60 calls; no condition. -/
import Derived.Test.YtppnobcbcjkccabRows
import Derived.ProofKit
import Derived.OpenShut
import Derived.Carry
import Derived.Test.YtppnobcbcjkccabQ11
namespace Go.Proofs.Ytppnobcbcjkccab.quotaEnds
open Go.ChangeShapes Go.WideShapes Go.ChangeAt Go.RowKit Go.Maps
set_option linter.unusedSimpArgs false
set_option linter.unusedVariables false
theorem used_next {T T' : Nat → Nd} {root : Int} {L : List Nat} {m : Nat} (g : Good T' root) (h : (∀ j, (T' j).live = (T j).live) ∧ ∀ i, i < m → (T' (L.getD i 0)).used = 0) (kk : Nat) (ek : L.getD m 0 = kk) : (∀ j, (putT T' kk ((T' kk).plus (-(T' kk).used)) j).live = (T j).live) ∧ ∀ i, i < m + 1 → (putT T' kk ((T' kk).plus (-(T' kk).used)) (L.getD i 0)).used = 0 := by
  constructor
  · intro j
    by_cases c : j = kk
    · subst c; rw [put_same]; exact h.1 j
    · rw [put_other _ _ _ _ c]; exact h.1 j
  · intro i hi
    by_cases c : L.getD i 0 = kk
    · rw [c, put_same]; unfold Nd.plus; simp only; omega
    · rw [put_other _ _ _ _ c]
      exact h.2 i (by
        by_cases d : i = m
        · subst d; exact absurd ek c
        · omega)
/-- one without children -/
def Leaf (T : Nat → Nd) (k : Nat) : Prop := k < 64 ∧ k ≠ 0 ∧ (T k).live = true ∧ ∀ j, j < 64 → (T j).live = true → (T j).par ≠ k
def Gone (T T3 : Nat → Nd) (L : List Nat) (m : Nat) : Prop := NoUse T3 ∧ Sub T T3 ∧ ∀ k i, Leaf T k → i < m → L.getD i 0 = k → (T3 k).live = false
theorem gone_next {T T3 : Nat → Nd} {root : Int} {L : List Nat} {m : Nat} (g : Good T3 root) (h : Gone T T3 L m) (kk : Nat) (ek : L.getD m 0 = kk) : Gone T (endT T3 kk) L (m + 1) := by
  obtain ⟨h1, h2, h3⟩ := h
  obtain ⟨e1, e2⟩ := end_sub g (kk : Int)
  refine ⟨e2 h1, h2.trans e1, fun k i lf hi ei => ?_⟩
  by_cases c : i = m
  · subst c
    have : kk = k := ek.symm.trans ei
    subst this
    exact end_gone h2 h1 kk lf.1 lf.2.1 lf.2.2.2
  · have h4 := h3 k i lf (by omega) ei
    by_cases d : (endT T3 kk k).live = true
    · have := (e1 k lf.1 d).1
      rw [h4] at this; exact absurd this (by simp)
    · simpa using d
theorem gone_left {T T3 : Nat → Nd} {root : Int} {r : Nat} (g : Good T root) (hl : Left T r) (h : Gone T T3 (liveL T 64) (liveL T 64).length) : Left T3 (r + 1) := by
  by_cases c : ∃ k, k < 64 ∧ k ≠ 0 ∧ (T k).live = true
  · obtain ⟨k, a1, a2, a3, a4⟩ := leaf_there g c
    obtain ⟨i, b1, b2⟩ := live_index T k a1 a3
    exact left_next h.2.1 hl k a1 a3 (h.2.2 k i ⟨a1, a2, a3, a4⟩ b1 b2)
  · refine left_stay h.2.1 (fun k hk h0 => ?_)
    by_cases d : (T k).live = true
    · exact absurd ⟨k, hk, h0, d⟩ c
    · simpa using d

set_option maxRecDepth 8000 in
set_option maxHeartbeats 4000000 in
theorem walk (a0 : Int) (w0 : (Lit.int .i64 a0).wf = true) (p1 : Option Addr) (n1 c1 : Nat) (K1 I1 N1 : Nat → Int) (m1 : n1 ≤ maxLen) (w : World) (H1 : IsActs w p1 n1 K1 I1 N1) :
    Calls Try.prog 5 #[.int .i64 a0, .slice p1 n1 c1] w fun e w' => e = .returned (.bool true) ∧ Below w.heap.size w w' := by
  have AW : Hid (∀ W : World, Calls Try.prog 9 #[] W fun e w' => e = .returned (.bool true) ∧ Below W.heap.size W w') := fun W => awake_any W
  by_cases kb : a0 < 0 ∨ 1048576 < a0
  · have NW : Hid (∀ W : World, Calls Try.prog 8 #[.int .i64 a0] W fun e w' => e = .returned (.tuple #[.pointer none, .int .i64 1]) ∧ Below W.heap.size W w') := fun W => new_bad a0 kb W
    go_enter Try.func5, Try.ntmps5
    go_wp2_with fail
    refine (NW.out _).mono ?_
    rintro e u0 ⟨rfl, hb0⟩
    have B0 : Hid (Below w.heap.size w u0) := hb0
    clear hb0
    go_wp2_with fail
    refine (AW.out _).mono ?_
    rintro e u1 ⟨rfl, hb1⟩
    have B1 : Hid (Below w.heap.size w u1) := below_then B0.out hb1
    clear hb1
    go_wp2_with fail
    go_ret
    exact ⟨rfl, B1.out⟩
  have NW : Hid (∀ W : World, Calls Try.prog 8 #[.int .i64 a0] W fun e w' => e = .returned (.tuple #[.pointer (some ⟨W.heap.size, 0, none⟩), .int .i64 0]) ∧ Own W w' W.heap.size (rootT a0)) := fun W => new_ok a0 (by omega) (by omega) W
  have GR : Hid (Good (rootT a0) a0) := root_good a0 (by omega) (by omega)
  have LVC : Hid (∀ (T : Nat → Nd) (W : World), IsTree W w.heap.size T → Calls Try.prog 11 #[.pointer (some ⟨w.heap.size, 0, none⟩)] W fun e w' => (∃ p c, e = .returned (.slice p (liveL T 64).length c) ∧ IsRow w' (w.heap.size + 1) p (liveL T 64)) ∧ Below W.heap.size W w') := fun T W h => (live_call w.heap.size T W h).mono fun e w' ⟨⟨p, c, h1, h2⟩, h3⟩ => ⟨⟨p, c, h1, h2.weak (by have := h.2.2; omega)⟩, h3⟩
  have GTC : Hid (∀ (T : Nat → Nd) (kk : Nat), kk < 64 → ∀ W : World, IsTree W w.heap.size T → Calls Try.prog 14 #[.pointer (some ⟨w.heap.size, 0, none⟩), .int .i64 kk] W fun e w' => e = .returned (.tuple #[.agg #[.int .i64 (T kk).par, .int .i64 (T kk).quota, .int .i64 (T kk).used, .int .i64 (T kk).lent, .bool (T kk).live], .bool (T kk).live]) ∧ Below W.heap.size W w') := fun T kk hk W h => by
    have := get_any w.heap.size T kk W h
    rw [get_nat T kk hk] at this; exact this
  have CRC : Hid (∀ (T : Nat → Nd), Good T a0 → ∀ (kk : Nat), kk < 64 → (T kk).live = true → ∀ W : World, IsTree W w.heap.size T → Calls Try.prog 16 #[.pointer (some ⟨w.heap.size, 0, none⟩), .int .i64 kk, .int .i64 (T kk).used] W fun e w' => e = .returned (.int .i64 0) ∧ IsTree w' w.heap.size (putT T kk ((T kk).plus (-(T kk).used))) ∧ W.grownBy w' (some w.heap.size)) := fun T g kk hk hl W h => by
    have := credit_any w.heap.size T g.okT kk (T kk).used W h
    obtain ⟨e1, e2⟩ := credit_all g kk hk hl
    rw [e1, e2] at this; exact this
  have ENC : Hid (∀ (T : Nat → Nd), Good T a0 → ∀ (i : Int) (W : World), IsTree W w.heap.size T → Calls Try.prog 17 #[.pointer (some ⟨w.heap.size, 0, none⟩), .int .i64 i] W fun e w' => e = .returned (.int .i64 (endN T i)) ∧ IsTree w' w.heap.size (endT T i) ∧ W.grownBy w' (some w.heap.size)) := fun T g i W h => end_any w.heap.size T g.okT g.parT i W h
  have RMC : Hid (∀ (T : Nat → Nd), Good T a0 → ∀ (i : Int) (W : World), IsTree W w.heap.size T → Calls Try.prog 12 #[.pointer (some ⟨w.heap.size, 0, none⟩), .int .i64 i] W fun e w' => e = .returned (.int .i64 (getN T i).room) ∧ Below W.heap.size W w') := fun T g i W h => room_any w.heap.size T g.okT i W h
  have HA : Hid (IsActs w p1 n1 K1 I1 N1) := H1
  have DO : Hid (∀ (T : Nat → Nd), Good T a0 → ∀ (k i n : Int) (W : World), IsTree W w.heap.size T → Calls Try.prog 10 #[.pointer (some ⟨w.heap.size, 0, none⟩), .slice none 0 0, .agg #[.int .i64 k, .int .i64 i, .int .i64 n]] W fun e w' => (∃ v, e = .returned v) ∧ IsTree w' w.heap.size (doesT T k i n) ∧ W.grownBy w' (some w.heap.size)) := fun T g k i n W h => does_any w.heap.size T g.okT g.parT k i n W h
  clear H1
  have mm : (n1 : Int) ≤ 9223372036854775807 := by have : maxLen ≤ 9223372036854775807 := by decide +kernel
                                                   omega
  go_enter Try.func5, Try.ntmps5
  go_wp2_with fail
  refine (NW.out _).mono ?_
  rintro e u0 ⟨rfl, h0⟩
  have M0 : Hid (OwnG w u0 w.heap.size (rootT a0) a0) := ⟨h0, GR.out⟩
  clear h0 NW GR
  go_wp2_with fail
  go_loopw [7] (fun x W => ∃ (k : Nat) (T : Nat → Nd), k ≤ n1 ∧ k ≤ 60 ∧ x = .int .i64 k ∧ Hid (OwnG w W w.heap.size T a0)) (fun x _ => 60 - (intOf x).toNat)
  case atStart => exact ⟨0, _, by omega, by omega, rfl, M0⟩
  case round =>
    obtain ⟨k, T, hk, hk6, rfl, hM⟩ := hrel
    by_cases hlt : k < n1 ∧ k < 60
    · have hd : decide ((k : Int) < (n1 : Int)) = true := by simp; omega
      have hd2 : decide ((k : Int) < 60) = true := by simp; omega
      obtain ⟨b, o, rfl, lb, c0, c1, c2⟩ := (HA.out.below hM.out.1.2.1) k hlt.1
      generalize K1 k = a_k at c0
      generalize I1 k = a_i at c1
      generalize N1 k = a_n at c2
      go_wp2_with fail
      refine (DO.out T hM.out.2 a_k a_i a_n _ hM.out.1.1).mono ?_
      rintro e u1 ⟨⟨v, rfl⟩, h1, h2⟩
      have M1 : Hid (OwnG w u1 w.heap.size (doesT T a_k a_i a_n) a0) := hM.out.next h1 h2 (hM.out.2.does _ _ _)
      clear h1 h2 c0 c1 c2 lb
      go_wp2_with fail
      go_roundw
      case rel => exact ⟨k + 1, _, by omega, by omega, by go_num, M1⟩
      case measure => simp [intOf]; omega
    · have hM1 : Hid (OwnG w wr w.heap.size T a0) := hM
      clear hM DO HA
      by_cases hq : k < n1
      · have hd : decide ((k : Int) < (n1 : Int)) = true := by simp; omega
        have hd2 : decide ((k : Int) < 60) = false := by simp; omega
        go_wp2_with fail
        refine (LVC.out T _ hM1.out.1.1).mono ?_
        rintro e u1 ⟨⟨p, c, rfl, hr⟩, hb1⟩
        have M1 : Hid (OwnG w u1 w.heap.size T a0) := hM1.out.grow hb1
        have R1 : Hid (IsRow u1 (w.heap.size + 1) p (liveL T 64)) := hr
        have LF : Hid (∀ i, i < (liveL T 64).length → (liveL T 64).getD i 0 < 64 ∧ (T ((liveL T 64).getD i 0)).live = true) := fun i hi => live_get T i hi
        have LX : Hid (∀ k, k < 64 → (T k).live = true → ∃ i, i < (liveL T 64).length ∧ (liveL T 64).getD i 0 = k) := fun k hk h => live_index T k hk h
        have ll : (liveL T 64).length ≤ 64 := live_len T 64
        clear hr hb1 hM1
        generalize liveL T 64 = L at R1 LF LX ll ⊢
        go_wp2_with fail
        go_loopw [46] (fun x W => ∃ (m : Nat) (T' : Nat → Nd), m ≤ L.length ∧ x = .int .i64 m ∧ Hid (OwnG w W w.heap.size T' a0) ∧ Hid (IsRow W (w.heap.size + 1) p L) ∧ Hid ((∀ j, (T' j).live = (T j).live) ∧ ∀ i, i < m → (T' (L.getD i 0)).used = 0)) (fun x _ => L.length - (intOf x).toNat)
        case atStart => exact ⟨0, T, by omega, rfl, M1, R1, ⟨fun _ => rfl, fun i hi => absurd hi (Nat.not_lt_zero _)⟩⟩
        case round =>
          obtain ⟨m, T', hm, rfl, hM2, hR2, hU2⟩ := hrel
          by_cases hlm : m < L.length
          · have hdm : decide ((m : Int) < (L.length : Int)) = true := by simp; omega
            obtain ⟨g, rfl, g1, g2, gc⟩ := hR2.out m hlm
            obtain ⟨kk, hkk⟩ : ∃ kk, L.getD m 0 = kk := ⟨_, rfl⟩
            have HKK : Hid (L.getD m 0 = kk) := hkk
            rw [hkk] at gc
            have kl : kk < 64 ∧ (T' kk).live = true := by
              have := LF.out m hlm
              rw [hkk] at this
              exact ⟨this.1, by rw [hU2.out.1]; exact this.2⟩
            have KL : Hid ((T' kk).live = true) := kl.2
            have k64 := kl.1
            clear kl hkk
            go_wp2_with fail
            refine (GTC.out T' kk k64 _ hM2.out.1.1).mono ?_
            rintro e u2 ⟨rfl, hb2⟩
            have M3 : Hid (OwnG w u2 w.heap.size T' a0) := hM2.out.grow hb2
            have R3 : Hid (IsRow u2 (w.heap.size + 1) (some ⟨g, 0, none⟩) L) := hR2.out.below hb2
            clear hb2 gc g1 g2
            have CR := CRC.out T' M3.out.2 kk k64 KL.out
            have CR' : Hid (∀ W : World, IsTree W w.heap.size T' → Calls Try.prog 16 #[.pointer (some ⟨w.heap.size, 0, none⟩), .int .i64 kk, .int .i64 (T' kk).used] W fun e w' => e = .returned (.int .i64 0) ∧ IsTree w' w.heap.size (putT T' kk ((T' kk).plus (-(T' kk).used))) ∧ W.grownBy w' (some w.heap.size)) := CR
            clear CR
            have UN : Hid ((∀ j, (putT T' kk ((T' kk).plus (-(T' kk).used)) j).live = (T j).live) ∧ ∀ i, i < m + 1 → (putT T' kk ((T' kk).plus (-(T' kk).used)) (L.getD i 0)).used = 0) := used_next M3.out.2 hU2.out kk HKK.out
            have GN : Hid (Good (putT T' kk ((T' kk).plus (-(T' kk).used))) a0) := by
              have := M3.out.2.credit kk (T' kk).used
              rw [(credit_all M3.out.2 kk k64 KL.out).2] at this; exact this
            generalize putT T' kk ((T' kk).plus (-(T' kk).used)) = T2 at CR' UN GN
            generalize T' kk = lk at CR' ⊢
            obtain ⟨lp, lq, lu, lz, lv⟩ := lk
            go_wp2_with fail
            refine (CR'.out _ (M3.out.grow (Go.Joins.below_alloc1 _ _)).1.1).mono ?_
            rintro e u3 ⟨rfl, h1, h2⟩
            have M4 : Hid (OwnG w u3 w.heap.size T2 a0) := (M3.out.grow (Go.Joins.below_alloc1 _ _)).next h1 h2 GN.out
            have R4 : Hid (IsRow u3 (w.heap.size + 1) (some ⟨g, 0, none⟩) L) := (R3.out.below (Go.Joins.below_alloc1 _ _)).grown h2 (by omega)
            clear h1 h2
            go_wp2_with fail
            go_roundw
            case rel => exact ⟨m + 1, T2, by omega, by go_num, M4, R4, UN⟩
            case measure => simp [intOf]; omega
          · obtain rfl : m = L.length := by omega
            have NU : Hid (NoUse T') := fun j hj => by
              by_cases c : (T j).live = true
              · obtain ⟨i, i1, i2⟩ := LX.out j hj c
                have := hU2.out.2 i i1
                rw [i2] at this; exact this
              · have c' : (T' j).live = false := by rw [hU2.out.1]; simpa using c
                rw [hM2.out.2.dead j hj c']; rfl
            clear LF LX hR2 hU2
            go_wp2_with fail
            go_loopw [12] (fun x W => ∃ (r : Nat) (T2 : Nat → Nd), r ≤ 64 ∧ x = .int .i64 r ∧ Hid (OwnG w W w.heap.size T2 a0) ∧ Hid (NoUse T2 ∧ Left T2 r)) (fun x _ => 64 - (intOf x).toNat)
            case atStart => exact ⟨0, T', by omega, rfl, hM2, ⟨NU.out, left_start T'⟩⟩
            case round =>
              obtain ⟨r, T2, hr6, rfl, hM3, hL3⟩ := hrel
              by_cases hlr : r < 64
              · have hdr : decide ((r : Int) < 64) = true := by simp; omega
                go_wp2_with fail
                refine (LVC.out T2 _ hM3.out.1.1).mono ?_
                rintro e u2 ⟨⟨p2, c2, rfl, hr2⟩, hb2⟩
                have M4 : Hid (OwnG w u2 w.heap.size T2 a0) := hM3.out.grow hb2
                have R4 : Hid (IsRow u2 (w.heap.size + 1) p2 (liveL T2 64)) := hr2
                have GL : Hid (∀ T3, Gone T2 T3 (liveL T2 64) (liveL T2 64).length → Left T3 (r + 1)) := fun T3 h => gone_left hM3.out.2 hL3.out.2 h
                have l2 : (liveL T2 64).length ≤ 64 := live_len T2 64
                clear hr2 hb2
                generalize liveL T2 64 = L2 at R4 GL l2 ⊢
                go_wp2_with fail
                go_loopw [70] (fun x W => ∃ (m : Nat) (T3 : Nat → Nd), m ≤ L2.length ∧ x = .int .i64 m ∧ Hid (OwnG w W w.heap.size T3 a0) ∧ Hid (IsRow W (w.heap.size + 1) p2 L2) ∧ Hid (Gone T2 T3 L2 m)) (fun x _ => L2.length - (intOf x).toNat)
                case atStart => exact ⟨0, T2, by omega, rfl, M4, R4, ⟨hL3.out.1, Sub.refl _, fun k i _ hi _ => absurd hi (Nat.not_lt_zero _)⟩⟩
                case round =>
                  obtain ⟨m, T3, hm, rfl, hM5, hR5, hG5⟩ := hrel
                  by_cases hlm : m < L2.length
                  · have hdm : decide ((m : Int) < (L2.length : Int)) = true := by simp; omega
                    obtain ⟨g, rfl, g1, g2, gc⟩ := hR5.out m hlm
                    have GN : Hid (Gone T2 (endT T3 (L2.getD m 0 : Nat)) L2 (m + 1)) := gone_next hM5.out.2 hG5.out (L2.getD m 0) rfl
                    generalize L2.getD m 0 = kk at gc GN
                    go_wp2_with fail
                    refine (ENC.out T3 hM5.out.2 kk _ hM5.out.1.1).mono ?_
                    rintro e u3 ⟨rfl, h1, h2⟩
                    have M6 : Hid (OwnG w u3 w.heap.size (endT T3 kk) a0) := hM5.out.next h1 h2 (hM5.out.2.ends _)
                    have R6 : Hid (IsRow u3 (w.heap.size + 1) (some ⟨g, 0, none⟩) L2) := hR5.out.grown h2 (by omega)
                    clear h1 h2 gc g1 g2
                    go_wp2_with fail
                    go_roundw
                    case rel => exact ⟨m + 1, _, by omega, by go_num, M6, R6, GN⟩
                    case measure => simp [intOf]; omega
                  · obtain rfl : m = L2.length := by omega
                    have LN : Hid (NoUse T3 ∧ Left T3 (r + 1)) := ⟨hG5.out.1, GL.out T3 hG5.out⟩
                    clear GL hR5 hG5
                    go_wp2_with fail
                    go_roundw
                    case rel => exact ⟨r + 1, T3, by omega, by go_num, hM5, LN⟩
                    case measure => simp [intOf]; omega
              · obtain rfl : r = 64 := by omega
                obtain ⟨z1, z2, z3⟩ := left_end hM3.out.2 hL3.out.1 hL3.out.2
                have LV1 := LVC.out T2
                rw [z1] at LV1
                have RM1 := RMC.out T2 hM3.out.2 0
                rw [z2] at RM1
                have EN1 := ENC.out T2 hM3.out.2 0
                rw [z3] at EN1
                have LV2 : Hid _ := LV1
                have RM2 : Hid _ := RM1
                have EN2 : Hid _ := EN1
                clear LV1 RM1 EN1 z1 z2 z3 hL3
                go_wp2_with fail
                refine (AW.out _).mono ?_
                rintro e u2 ⟨rfl, hb2⟩
                have M4 : Hid (OwnG w u2 w.heap.size T2 a0) := hM3.out.grow hb2
                clear hb2
                go_wp2_with fail
                refine (LV2.out _ M4.out.1.1).mono ?_
                rintro e u3 ⟨⟨p3, c3, rfl, _⟩, hb3⟩
                have M5 : Hid (OwnG w u3 w.heap.size T2 a0) := M4.out.grow hb3
                clear hb3
                go_wp2_with fail
                refine (RM2.out _ M5.out.1.1).mono ?_
                rintro e u4 ⟨rfl, hb4⟩
                have M6 : Hid (OwnG w u4 w.heap.size T2 a0) := M5.out.grow hb4
                clear hb4
                go_wp2_with fail
                refine (EN2.out _ M6.out.1.1).mono ?_
                rintro e u5 ⟨rfl, h1, h2⟩
                have M7 : Hid (Own w u5 w.heap.size (endT T2 0)) := M6.out.1.next h1 h2
                clear h1 h2
                go_wp2_with fail
                go_ret
                exact ⟨rfl, M7.out.2.1⟩
      · have hd : decide ((k : Int) < (n1 : Int)) = false := by simp; omega
        go_wp2_with fail
        refine (LVC.out T _ hM1.out.1.1).mono ?_
        rintro e u1 ⟨⟨p, c, rfl, hr⟩, hb1⟩
        have M1 : Hid (OwnG w u1 w.heap.size T a0) := hM1.out.grow hb1
        have R1 : Hid (IsRow u1 (w.heap.size + 1) p (liveL T 64)) := hr
        have LF : Hid (∀ i, i < (liveL T 64).length → (liveL T 64).getD i 0 < 64 ∧ (T ((liveL T 64).getD i 0)).live = true) := fun i hi => live_get T i hi
        have LX : Hid (∀ k, k < 64 → (T k).live = true → ∃ i, i < (liveL T 64).length ∧ (liveL T 64).getD i 0 = k) := fun k hk h => live_index T k hk h
        have ll : (liveL T 64).length ≤ 64 := live_len T 64
        clear hr hb1 hM1
        generalize liveL T 64 = L at R1 LF LX ll ⊢
        go_wp2_with fail
        go_loopw [46] (fun x W => ∃ (m : Nat) (T' : Nat → Nd), m ≤ L.length ∧ x = .int .i64 m ∧ Hid (OwnG w W w.heap.size T' a0) ∧ Hid (IsRow W (w.heap.size + 1) p L) ∧ Hid ((∀ j, (T' j).live = (T j).live) ∧ ∀ i, i < m → (T' (L.getD i 0)).used = 0)) (fun x _ => L.length - (intOf x).toNat)
        case atStart => exact ⟨0, T, by omega, rfl, M1, R1, ⟨fun _ => rfl, fun i hi => absurd hi (Nat.not_lt_zero _)⟩⟩
        case round =>
          obtain ⟨m, T', hm, rfl, hM2, hR2, hU2⟩ := hrel
          by_cases hlm : m < L.length
          · have hdm : decide ((m : Int) < (L.length : Int)) = true := by simp; omega
            obtain ⟨g, rfl, g1, g2, gc⟩ := hR2.out m hlm
            obtain ⟨kk, hkk⟩ : ∃ kk, L.getD m 0 = kk := ⟨_, rfl⟩
            have HKK : Hid (L.getD m 0 = kk) := hkk
            rw [hkk] at gc
            have kl : kk < 64 ∧ (T' kk).live = true := by
              have := LF.out m hlm
              rw [hkk] at this
              exact ⟨this.1, by rw [hU2.out.1]; exact this.2⟩
            have KL : Hid ((T' kk).live = true) := kl.2
            have k64 := kl.1
            clear kl hkk
            go_wp2_with fail
            refine (GTC.out T' kk k64 _ hM2.out.1.1).mono ?_
            rintro e u2 ⟨rfl, hb2⟩
            have M3 : Hid (OwnG w u2 w.heap.size T' a0) := hM2.out.grow hb2
            have R3 : Hid (IsRow u2 (w.heap.size + 1) (some ⟨g, 0, none⟩) L) := hR2.out.below hb2
            clear hb2 gc g1 g2
            have CR := CRC.out T' M3.out.2 kk k64 KL.out
            have CR' : Hid (∀ W : World, IsTree W w.heap.size T' → Calls Try.prog 16 #[.pointer (some ⟨w.heap.size, 0, none⟩), .int .i64 kk, .int .i64 (T' kk).used] W fun e w' => e = .returned (.int .i64 0) ∧ IsTree w' w.heap.size (putT T' kk ((T' kk).plus (-(T' kk).used))) ∧ W.grownBy w' (some w.heap.size)) := CR
            clear CR
            have UN : Hid ((∀ j, (putT T' kk ((T' kk).plus (-(T' kk).used)) j).live = (T j).live) ∧ ∀ i, i < m + 1 → (putT T' kk ((T' kk).plus (-(T' kk).used)) (L.getD i 0)).used = 0) := used_next M3.out.2 hU2.out kk HKK.out
            have GN : Hid (Good (putT T' kk ((T' kk).plus (-(T' kk).used))) a0) := by
              have := M3.out.2.credit kk (T' kk).used
              rw [(credit_all M3.out.2 kk k64 KL.out).2] at this; exact this
            generalize putT T' kk ((T' kk).plus (-(T' kk).used)) = T2 at CR' UN GN
            generalize T' kk = lk at CR' ⊢
            obtain ⟨lp, lq, lu, lz, lv⟩ := lk
            go_wp2_with fail
            refine (CR'.out _ (M3.out.grow (Go.Joins.below_alloc1 _ _)).1.1).mono ?_
            rintro e u3 ⟨rfl, h1, h2⟩
            have M4 : Hid (OwnG w u3 w.heap.size T2 a0) := (M3.out.grow (Go.Joins.below_alloc1 _ _)).next h1 h2 GN.out
            have R4 : Hid (IsRow u3 (w.heap.size + 1) (some ⟨g, 0, none⟩) L) := (R3.out.below (Go.Joins.below_alloc1 _ _)).grown h2 (by omega)
            clear h1 h2
            go_wp2_with fail
            go_roundw
            case rel => exact ⟨m + 1, T2, by omega, by go_num, M4, R4, UN⟩
            case measure => simp [intOf]; omega
          · obtain rfl : m = L.length := by omega
            have NU : Hid (NoUse T') := fun j hj => by
              by_cases c : (T j).live = true
              · obtain ⟨i, i1, i2⟩ := LX.out j hj c
                have := hU2.out.2 i i1
                rw [i2] at this; exact this
              · have c' : (T' j).live = false := by rw [hU2.out.1]; simpa using c
                rw [hM2.out.2.dead j hj c']; rfl
            clear LF LX hR2 hU2
            go_wp2_with fail
            go_loopw [12] (fun x W => ∃ (r : Nat) (T2 : Nat → Nd), r ≤ 64 ∧ x = .int .i64 r ∧ Hid (OwnG w W w.heap.size T2 a0) ∧ Hid (NoUse T2 ∧ Left T2 r)) (fun x _ => 64 - (intOf x).toNat)
            case atStart => exact ⟨0, T', by omega, rfl, hM2, ⟨NU.out, left_start T'⟩⟩
            case round =>
              obtain ⟨r, T2, hr6, rfl, hM3, hL3⟩ := hrel
              by_cases hlr : r < 64
              · have hdr : decide ((r : Int) < 64) = true := by simp; omega
                go_wp2_with fail
                refine (LVC.out T2 _ hM3.out.1.1).mono ?_
                rintro e u2 ⟨⟨p2, c2, rfl, hr2⟩, hb2⟩
                have M4 : Hid (OwnG w u2 w.heap.size T2 a0) := hM3.out.grow hb2
                have R4 : Hid (IsRow u2 (w.heap.size + 1) p2 (liveL T2 64)) := hr2
                have GL : Hid (∀ T3, Gone T2 T3 (liveL T2 64) (liveL T2 64).length → Left T3 (r + 1)) := fun T3 h => gone_left hM3.out.2 hL3.out.2 h
                have l2 : (liveL T2 64).length ≤ 64 := live_len T2 64
                clear hr2 hb2
                generalize liveL T2 64 = L2 at R4 GL l2 ⊢
                go_wp2_with fail
                go_loopw [70] (fun x W => ∃ (m : Nat) (T3 : Nat → Nd), m ≤ L2.length ∧ x = .int .i64 m ∧ Hid (OwnG w W w.heap.size T3 a0) ∧ Hid (IsRow W (w.heap.size + 1) p2 L2) ∧ Hid (Gone T2 T3 L2 m)) (fun x _ => L2.length - (intOf x).toNat)
                case atStart => exact ⟨0, T2, by omega, rfl, M4, R4, ⟨hL3.out.1, Sub.refl _, fun k i _ hi _ => absurd hi (Nat.not_lt_zero _)⟩⟩
                case round =>
                  obtain ⟨m, T3, hm, rfl, hM5, hR5, hG5⟩ := hrel
                  by_cases hlm : m < L2.length
                  · have hdm : decide ((m : Int) < (L2.length : Int)) = true := by simp; omega
                    obtain ⟨g, rfl, g1, g2, gc⟩ := hR5.out m hlm
                    have GN : Hid (Gone T2 (endT T3 (L2.getD m 0 : Nat)) L2 (m + 1)) := gone_next hM5.out.2 hG5.out (L2.getD m 0) rfl
                    generalize L2.getD m 0 = kk at gc GN
                    go_wp2_with fail
                    refine (ENC.out T3 hM5.out.2 kk _ hM5.out.1.1).mono ?_
                    rintro e u3 ⟨rfl, h1, h2⟩
                    have M6 : Hid (OwnG w u3 w.heap.size (endT T3 kk) a0) := hM5.out.next h1 h2 (hM5.out.2.ends _)
                    have R6 : Hid (IsRow u3 (w.heap.size + 1) (some ⟨g, 0, none⟩) L2) := hR5.out.grown h2 (by omega)
                    clear h1 h2 gc g1 g2
                    go_wp2_with fail
                    go_roundw
                    case rel => exact ⟨m + 1, _, by omega, by go_num, M6, R6, GN⟩
                    case measure => simp [intOf]; omega
                  · obtain rfl : m = L2.length := by omega
                    have LN : Hid (NoUse T3 ∧ Left T3 (r + 1)) := ⟨hG5.out.1, GL.out T3 hG5.out⟩
                    clear GL hR5 hG5
                    go_wp2_with fail
                    go_roundw
                    case rel => exact ⟨r + 1, T3, by omega, by go_num, hM5, LN⟩
                    case measure => simp [intOf]; omega
              · obtain rfl : r = 64 := by omega
                obtain ⟨z1, z2, z3⟩ := left_end hM3.out.2 hL3.out.1 hL3.out.2
                have LV1 := LVC.out T2
                rw [z1] at LV1
                have RM1 := RMC.out T2 hM3.out.2 0
                rw [z2] at RM1
                have EN1 := ENC.out T2 hM3.out.2 0
                rw [z3] at EN1
                have LV2 : Hid _ := LV1
                have RM2 : Hid _ := RM1
                have EN2 : Hid _ := EN1
                clear LV1 RM1 EN1 z1 z2 z3 hL3
                go_wp2_with fail
                refine (AW.out _).mono ?_
                rintro e u2 ⟨rfl, hb2⟩
                have M4 : Hid (OwnG w u2 w.heap.size T2 a0) := hM3.out.grow hb2
                clear hb2
                go_wp2_with fail
                refine (LV2.out _ M4.out.1.1).mono ?_
                rintro e u3 ⟨⟨p3, c3, rfl, _⟩, hb3⟩
                have M5 : Hid (OwnG w u3 w.heap.size T2 a0) := M4.out.grow hb3
                clear hb3
                go_wp2_with fail
                refine (RM2.out _ M5.out.1.1).mono ?_
                rintro e u4 ⟨rfl, hb4⟩
                have M6 : Hid (OwnG w u4 w.heap.size T2 a0) := M5.out.grow hb4
                clear hb4
                go_wp2_with fail
                refine (EN2.out _ M6.out.1.1).mono ?_
                rintro e u5 ⟨rfl, h1, h2⟩
                have M7 : Hid (Own w u5 w.heap.size (endT T2 0)) := M6.out.1.next h1 h2
                clear h1 h2
                go_wp2_with fail
                go_ret
                exact ⟨rfl, M7.out.2.1⟩

theorem own : ownKnob Try.prog.godebug = none := by kernel_rfl
theorem laidOut : laidOutB Try.prog = true := by kernel_rfl
set_option maxRecDepth 100000 in
theorem lifted (os : Os) (started : os.Started) (H : Type) (enc : TypeId × Value → H) :
    ReturnsInHanded {} Try.checked os 5 .any (Rows.quotaEndsSpec.pre6 enc Try.prog Try.f5 Rows.quotaEndsRow.domain false) (Rows.quotaEndsSpec.post enc Try.prog Try.f5 false true false false) := by
  refine returnsInHanded_of_change (C := Try.checked) own started (by kernel_rfl) Try.func5
    (ChangeSpec.witness6 (enc := enc) (C := Try.checked) false ⟨#[], #[.int .i64 0, .slice none 0 0], []⟩ 8 (by kernel_rfl) (by kernel_rfl) (by kernel_rfl) (by kernel_rfl)) ?_
  intro W base args ds gs before hval0 hW hcnd _
  have hval : ∀ (j : Nat) t v, Try.f5.params[j]? = some t → args[j]? = some v → Value.okWide Try.prog W .any base t v := hval0
  have hW' := hW
  obtain ⟨p, q, hA0, hV, hbef, hfz, hnd⟩ := hW
  have hA : DataW.TrodAll enc Try.prog W 0 (fun _ => true) true Try.f5.params.toList args.toList ds p := hA0
  have hAk := hA
  have hlt : ∀ x ∈ p, x.block < W.heap.size := fun x hx => hW'.lt x (by rw [hbef]; exact List.mem_append_left _ hx)
  rw [Try.params5] at hA hval
  obtain ⟨v0, vs0, d0, ds0, p0, q0, hargs, rfl, hp0, h0, r0⟩ := trodAll_cons hA
  obtain ⟨v1, vs1, d1, ds1, p1, q1, rfl, rfl, hp1, h1, r1⟩ := trodAll_cons r0
  obtain ⟨rfl, rfl, hpz⟩ := trodAll_nil r1
  obtain rfl : args = #[v0, v1] := by cases args; simp_all
  obtain ⟨rfl, rfl⟩ := trodVars_none hV
  obtain ⟨a0, rfl, _, _, w0⟩ := open_int Try.underlying3 (hval 0 3 v0 rfl rfl) h0
  obtain ⟨p1, n1, c1, K1, I1, N1, rfl, m1, H1⟩ := open_acts (hval 1 22 v1 rfl rfl) h1
  clear hA0 hval0
  refine (walk a0 w0 p1 n1 c1 K1 I1 N1 m1 W H1).mono fun e W' ⟨he, hg⟩ => ?_
  subst he
  exact ⟨_, rfl, ⟨_, _, _, [], p, [], hW', (trodAll_cons_mk (shut_bool Try.underlying4 _) trodAll_mk0), args_stay laidOut hg (by kernel_rfl) hAk hlt, rfl, hg.frame _, fun h => by cases h⟩⟩

theorem over : Rows.quotaEndsRow.holds Try.pinned (OpenSpec.ofChange Rows.quotaEndsSpec) :=
  OpenClaim.holds_of_wide 5 Try.f5 rfl rfl rfl rfl rfl rfl rfl ⟨rfl, rfl, rfl, rfl, rfl⟩ rfl rfl rfl rfl rfl (by kernel_rfl) Try.func5 (by kernel_rfl)
    (of_decide_eq_true (by kernel_rfl)) (by unfold Func.isWrapper; first | (rw [if_pos (by decide +kernel)]; kernel_rfl) | (rw [if_neg (by decide +kernel)]; exact ⟨rfl, rfl⟩))
    (fun os started H enc _ => lifted os started H enc)

theorem proved : Rows.QuotaEndsSaid :=
  over
#print axioms proved
end Go.Proofs.Ytppnobcbcjkccab.quotaEnds
