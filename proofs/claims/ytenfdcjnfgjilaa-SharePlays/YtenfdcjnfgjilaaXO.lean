/- Grants: the document's Offer. -/
import Derived.Test.YtenfdcjnfgjilaaXF
import Derived.Deep.DeepCutAuto
namespace Go.Proofs.Ytenfdcjnfgjilaa
open Go.ChangeShapes Go.WideShapes Go.ChangeAt Go.RowKit Go.Maps
set_option linter.unusedSimpArgs false
set_option linter.unusedVariables false
set_option maxRecDepth 8000
set_option maxRecDepth 8000
set_option maxRecDepth 8000

theorem off_bad {T : Nat → Gr} {f p d : Int} (h : offB f p d = true) (x : Bool) : offE T f p d = 1 ∧ offI T f p d = 0 ∧ offT T f p d x = T := by
  have e1 : offE T f p d = 1 := by unfold offE; rw [if_pos h]
  exact ⟨e1, by unfold offI; rw [e1]; rfl, by unfold offT; rw [e1]; rfl⟩
set_option maxHeartbeats 16000000 in
theorem roffer_row (T : Nat → Gr) (base : Nat) (q : Option Addr) (c : Nat) (f p d : Int) (x : Bool) (w : World) (h : IsRq w base q (rowG T 256)) (hbw : base ≤ w.heap.size) :
    Calls Try.prog 22 #[.slice q (rowG T 256).length c, .int .i64 f, .int .i64 p, .int .i64 d, .bool x] w fun e w' => (∃ p' c', e = .returned (.tuple #[.slice p' (rowG (offT T f p d x) 256).length c', .int .i64 (offI T f p d), .int .i64 (offE T f p d)]) ∧ IsRq w' base p' (rowG (offT T f p d x) 256)) ∧ Below w.heap.size w w' := by
  have HI : Hid (IsRq w base q (rowG T 256)) := h
  have PP : Hid (∀ W : World, Calls Try.prog 30 #[.int .i64 p] W fun e w' => e = .returned (.bool (isPage p)) ∧ w' = W) := fun W => rpage_any p W
  by_cases hB : offB f p d = true
  · obtain ⟨e1, e2, e3⟩ := off_bad (T := T) hB x
    rw [e1, e2, e3]
    unfold offB isProc at hB
    clear e1 e2 e3 h
    obtain ⟨n0, hn0⟩ : ∃ n0, (rowG T 256).length = n0 := ⟨_, rfl⟩
    rw [hn0]
    clear hn0
    generalize isPage p = zp at PP hB
    by_cases a1 : f < 0
    · have e1 : decide (f < 0) = true := by simp [a1]
      go_enter Try.func22, Try.ntmps22
      go_wp2_with fail
      go_returns
      first | exact ⟨⟨q, c, rfl, HI.out⟩, Below.refl _ _⟩ | exact ⟨⟨q, ⟨c, rfl⟩, HI.out⟩, Below.refl _ _⟩
    have e1 : decide (f < 0) = false := by simp; omega
    by_cases a2 : 15 < f
    · have e2 : decide (15 < f) = true := by simp [a2]
      go_enter Try.func22, Try.ntmps22
      go_wp2_with fail
      go_returns
      first | exact ⟨⟨q, c, rfl, HI.out⟩, Below.refl _ _⟩ | exact ⟨⟨q, ⟨c, rfl⟩, HI.out⟩, Below.refl _ _⟩
    have e2 : decide (15 < f) = false := by simp; omega
    by_cases a3 : d < 0
    · have e3 : decide (d < 0) = true := by simp [a3]
      go_enter Try.func22, Try.ntmps22
      go_wp2_with fail
      go_returns
      first | exact ⟨⟨q, c, rfl, HI.out⟩, Below.refl _ _⟩ | exact ⟨⟨q, ⟨c, rfl⟩, HI.out⟩, Below.refl _ _⟩
    have e3 : decide (d < 0) = false := by simp; omega
    by_cases a4 : 15 < d
    · have e4 : decide (15 < d) = true := by simp [a4]
      go_enter Try.func22, Try.ntmps22
      go_wp2_with fail
      go_returns
      first | exact ⟨⟨q, c, rfl, HI.out⟩, Below.refl _ _⟩ | exact ⟨⟨q, ⟨c, rfl⟩, HI.out⟩, Below.refl _ _⟩
    have e4 : decide (15 < d) = false := by simp; omega
    by_cases a5 : f = d
    · have e5 : (f == d) = true := by simp [a5]
      clear a5
      go_enter Try.func22, Try.ntmps22
      go_wp2_with fail
      go_returns
      first | exact ⟨⟨q, c, rfl, HI.out⟩, Below.refl _ _⟩ | exact ⟨⟨q, ⟨c, rfl⟩, HI.out⟩, Below.refl _ _⟩
    have e5 : (f == d) = false := by simp [a5]
    cases zp
    · go_enter Try.func22, Try.ntmps22
      go_wp2_with fail
      refine (PP.out _).mono ?_
      rintro e u1 ⟨rfl, hu⟩
      replace hu := hu.symm
      subst hu
      go_wp2_with fail
      go_returns
      first | exact ⟨⟨q, c, rfl, HI.out⟩, Below.refl _ _⟩ | exact ⟨⟨q, ⟨c, rfl⟩, HI.out⟩, Below.refl _ _⟩
    · exfalso
      rw [e5] at hB
      simp at hB
      omega
  · have hB' : offB f p d = false := by simpa using hB
    have hB2 := hB'
    unfold offB at hB2
    have z1 : isProc f = true := by cases c : isProc f <;> simp [c] at hB2 ⊢
    have z2 : isProc d = true := by cases c : isProc d <;> simp [c] at hB2 ⊢
    have z3 : isPage p = true := by cases c : isPage p <;> simp [c] at hB2 ⊢
    have e5 : (f == d) = false := by cases c : (f == d) <;> simp [c] at hB2 ⊢
    rw [z3] at PP
    obtain ⟨F, hFf, hF⟩ := proc_in z1
    obtain ⟨D, hD, hD6⟩ := proc_in z2
    have e1 : decide (f < 0) = false := by simp; omega
    have e2 : decide (15 < f) = false := by simp; omega
    have e3 : decide (d < 0) = false := by simp; omega
    have e4 : decide (15 < d) = false := by simp; omega
    have hFn : f.toNat = F := by omega
    have f0 : 0 ≤ f := by omega
    have f1 : f ≤ 15 := by omega
    have GI : Gr.is ⟨f, p, d, x, false, 0⟩ = true := by unfold Gr.is; simp only; rw [e5]; rfl
    have FI := fun (k : Nat) (hk : k < 16) W h => rfind_row T base q c (16 * f + (k : Int)) W h
    have RP := fun (k : Nat) (hk : k < 16) W h => rput_row T base q c (F * 16 + k) ⟨f, p, d, x, false, 0⟩ (by omega) GI W h
    have GG : Hid (∀ k : Nat, k < 16 → getG T (16 * f + (k : Int)) = T (F * 16 + k)) := fun k hk => by
      unfold getG; rw [if_pos (by omega), show (16 * f + (k : Int)).toNat = F * 16 + k by omega]
    have K1 : Hid (∀ k, k < 16 → (∀ j, j < k → (T (F * 16 + j)).is = true) → (T (F * 16 + k)).is = false → offI T f p d = 16 * f + (k : Int) ∧ offE T f p d = 0 ∧ offT T f p d x = putT T (F * 16 + k) ⟨f, p, d, x, false, 0⟩) := fun k hk ha hn => by
      have e : freeF T (F * 16) 16 = F * 16 + k := free_uniq T _ _ _ (by omega) (by omega) (fun i h1 h2 => by
        have := ha (i - F * 16) (by omega)
        rwa [show F * 16 + (i - F * 16) = i by omega] at this) (fun _ => hn)
      have q0 : offE T f p d = 0 := by unfold offE; rw [hB', if_neg (by decide), hFn, e, if_pos (by omega)]
      exact ⟨by unfold offI; rw [if_pos q0, hFn, e]; omega, q0, by unfold offT; rw [if_pos q0, hFn, e]⟩
    have K2 : Hid ((∀ j, j < 16 → (T (F * 16 + j)).is = true) → offI T f p d = 0 ∧ offE T f p d = 4 ∧ offT T f p d x = T) := fun ha => by
      have e : freeF T (F * 16) 16 = F * 16 + 16 := free_uniq T _ _ _ (by omega) (by omega) (fun i h1 h2 => by
        have := ha (i - F * 16) (by omega)
        rwa [show F * 16 + (i - F * 16) = i by omega] at this) (fun h => by omega)
      have q0 : offE T f p d = 4 := by unfold offE; rw [hB', if_neg (by decide), hFn, e, if_neg (by omega)]
      exact ⟨by unfold offI; rw [q0]; rfl, q0, by unfold offT; rw [q0]; rfl⟩
    generalize offI T f p d = RI at K1 K2 ⊢
    generalize offE T f p d = RE at K1 K2 ⊢
    generalize offT T f p d x = RT at K1 K2 ⊢
    obtain ⟨R2, hR2⟩ : ∃ R2, rowG RT 256 = R2 := ⟨_, rfl⟩
    rw [hR2]
    have HR2 : Hid (rowG RT 256 = R2) := hR2
    clear hR2
    obtain ⟨n0, hn0⟩ : ∃ n0, (rowG T 256).length = n0 := ⟨_, rfl⟩
    have HN0 : Hid ((rowG T 256).length = n0) := hn0
    rw [hn0] at FI RP ⊢
    have HF : Hid (f = (F : Int)) := hFf
    clear hn0 h hB hB' hB2 z1 z2 z3 GI hD hD6 hFn hFf
    have FI : Hid _ := FI
    have RP : Hid _ := RP
    go_enter Try.func22, Try.ntmps22
    go_wp2_with fail
    refine (PP.out _).mono ?_
    rintro e u1 ⟨rfl, hu⟩
    replace hu := hu.symm
    subst hu
    go_wp2_with fail
    clear PP
    go_loopw [13] (fun v W => ∃ k : Nat, k ≤ 16 ∧ v = .int .i64 k ∧ Hid (∀ j, j < k → (T (F * 16 + j)).is = true) ∧ Hid (Below w.heap.size w W)) (fun v _ => 16 - (intOf v).toNat)
    case atStart => exact ⟨0, by omega, rfl, fun j hj => by omega, Below.refl _ _⟩
    case round =>
      obtain ⟨k, hk, rfl, HA, B⟩ := hrel
      by_cases hlt : k < 16
      · have hd : decide ((k : Int) < 16) = true := by simp; omega
        have fi := FI.out k hlt
        have gg := GG.out k hlt
        have rp := RP.out k hlt
        cases hz : (T (F * 16 + k)).is
        · rw [findV_no (by rw [gg]; exact hz), gg, hz] at fi
          obtain ⟨q1, q2, q3⟩ := K1.out k hlt HA.out hz
          rw [← q3] at rp
          subst q1 q2
          simp only [Rq.zero] at fi
          rw [show (tellG ⟨f, p, d, x, false, 0⟩ ((F * 16 + k : Nat) : Int)).val = .agg #[.int .i64 (16 * f + (k : Int)), .int .i64 f, .int .i64 p, .int .i64 d, .bool x, .bool false, .int .i64 0] by simp only [tellG]; rw [show ((F * 16 + k : Nat) : Int) = 16 * f + (k : Int) by have := HF.out; omega]] at rp
          rw [HR2.out] at rp
          have FI2 : Hid _ := fi
          have RP2 : Hid _ := rp
          clear fi rp gg hz q3 FI RP K1 K2 GG HA
          go_wp2_with fail
          refine (FI2.out _ (HI.out.below B.out)).mono ?_
          rintro e u2 ⟨rfl, hb2⟩
          have B2 : Hid (Below w.heap.size w u2) := below_then B.out hb2
          clear hb2
          go_wp2_with fail
          have BX : Hid (Below w.heap.size w ((u2.alloc (.cells #[.int .i64 0, .int .i64 0, .int .i64 0, .int .i64 0, .bool false, .bool false, .int .i64 0] 41)).alloc (.cells #[.int .i64 (16 * f + (k : Int)), .int .i64 f, .int .i64 p, .int .i64 d, .bool x, .bool false, .int .i64 0] 41)).drew) := below_drew (below_new (below_new B2.out _) _)
          go_region_with (refine (RP2.out _ (HI.out.below BX.out)).mono ?_; rintro e u3 ⟨⟨p', c', rfl, hI'⟩, hb3⟩; have Y3 : Hid (u3.heap[u2.heap.size + 1]? = some (.cells #[.int .i64 (16 * f + (k : Int)), .int .i64 f, .int .i64 p, .int .i64 d, .bool x, .bool false, .int .i64 0] 41 (0, 0))) := ((hb3.block _ (by simp)).trans (own2b u2 _ _)); have y0 : u3.cell? ⟨u2.heap.size + 1, 0, none⟩ = some (.int .i64 (16 * f + (k : Int))) := (cells9 Y3.out 0 _ rfl); have B3 : Hid (Below w.heap.size w u3) := (below_then BX.out hb3); have I3 : Hid (IsRq u3 base p' R2) := (hI'.weak (Nat.le_trans hbw BX.out.size)); clear hb3 hI')
          all_goals go_wp2_with fail
          all_goals go_returns
          all_goals exact ⟨⟨p', c', rfl, I3.out⟩, B3.out⟩
        · rw [findV_is (by rw [gg]; exact hz), gg, hz] at fi
          have HA2 : Hid (∀ j, j < k + 1 → (T (F * 16 + j)).is = true) := fun j hj => by
            by_cases e : j = k
            · rw [e]; exact hz
            · exact HA.out j (by omega)
          generalize T (F * 16 + k) = l at fi
          obtain ⟨lf, lp, ld, lw, lt, la⟩ := l
          simp only [tellG] at fi
          have FI2 : Hid _ := fi
          clear fi rp gg hz HA
          go_wp2_with fail
          refine (FI2.out _ (HI.out.below B.out)).mono ?_
          rintro e u2 ⟨rfl, hb2⟩
          have B2 : Hid (Below w.heap.size w u2) := below_then B.out hb2
          clear hb2
          go_wp2_with fail
          go_roundw
          case rel => exact ⟨k + 1, by omega, by go_num, HA2, below_new B2.out _⟩
          case measure => simp [intOf]; omega
      · obtain rfl : k = 16 := by omega
        obtain ⟨q1, q2, q3⟩ := K2.out HA.out
        subst q1 q2 q3
        have hR : rowG RT 256 = R2 := HR2.out
        go_wp2_with fail
        go_returns
        subst hR
        first | exact ⟨⟨q, c, by rw [HN0.out]; rfl, HI.out.below B.out⟩, B.out⟩ | exact ⟨⟨q, ⟨c, by rw [HN0.out]; rfl⟩, HI.out.below B.out⟩, B.out⟩ | exact ⟨⟨q, ⟨c, rfl⟩, HI.out.below B.out⟩, B.out⟩
end Go.Proofs.Ytenfdcjnfgjilaa
