/- For any tag, page and way: as many lines are kept as there are places, and one more drives just one out; no condition. -/
import Derived.Test.YtdckjoimgddcbaaRows
import Derived.ProofKit
import Derived.OpenShut
import Derived.Carry
import Derived.Test.YtdckjoimgddcbaaT12
namespace Go.Proofs.Ytdckjoimgddcbaa.tlbFull
open Go.ChangeShapes Go.WideShapes Go.ChangeAt Go.RowKit Go.Maps
set_option linter.unusedSimpArgs false
set_option linter.unusedVariables false

set_option maxRecDepth 8000 in
set_option maxHeartbeats 2000000 in
theorem walk (a0 : Int) (w0 : (Lit.int .i64 a0).wf = true) (a1 : Int) (w1 : (Lit.int .i64 a1).wf = true) (a2 : Int) (w2 : (Lit.int .i64 a2).wf = true) (w : World) :
    Calls Try.prog 8 #[.int .i64 a0, .int .i64 a1, .int .i64 a2] w fun e w' => e = .returned (.bool true) ∧ Below w.heap.size w w' := by
  obtain ⟨Zs, hz, hs, hzz⟩ := zero30
  have AW : Hid (∀ w : World, Calls Try.prog 9 #[] w fun e w' => e = .returned (.bool true) ∧ Below w.heap.size w w') := fun w => awake_any w
  have M : Hid (Own w (w.alloc (.cells Zs 30)) w.heap.size (fullT a0 0)) := ⟨(IsTlb.made w Zs hs hzz).congr (fun i _ => (full_zero a0 i).symm), Go.Joins.below_alloc1 _ _, Nat.le_refl _⟩
  have W0 := wf_i64 w0
  have W1 := wf_i64 w1
  clear hs hzz w0 w1 w2
  by_cases c1 : a0 < 0
  · skip
    have e1 : decide (a0 < 0) = true := by simp; omega
    go_enter Try.func8, Try.ntmps8
    go_wp2_with fail
    refine (AW.out _).mono ?_
    rintro e u9 ⟨rfl, hb⟩
    go_wp2_with fail
    go_ret
    exact ⟨rfl, hb⟩
  by_cases c2 : 4095 < a0
  · skip
    have e1 : decide (a0 < 0) = false := by simp; omega
    have e2 : decide (4095 < a0) = true := by simp; omega
    go_enter Try.func8, Try.ntmps8
    go_wp2_with fail
    refine (AW.out _).mono ?_
    rintro e u9 ⟨rfl, hb⟩
    go_wp2_with fail
    go_ret
    exact ⟨rfl, hb⟩
  by_cases c3 : a1 < 0
  · skip
    have e1 : decide (a0 < 0) = false := by simp; omega
    have e2 : decide (4095 < a0) = false := by simp; omega
    have e3 : decide (a1 < 0) = true := by simp; omega
    go_enter Try.func8, Try.ntmps8
    go_wp2_with fail
    refine (AW.out _).mono ?_
    rintro e u9 ⟨rfl, hb⟩
    go_wp2_with fail
    go_ret
    exact ⟨rfl, hb⟩
  by_cases c4 : a2 < 0
  · skip
    have e1 : decide (a0 < 0) = false := by simp; omega
    have e2 : decide (4095 < a0) = false := by simp; omega
    have e3 : decide (a1 < 0) = false := by simp; omega
    have e4 : decide (a2 < 0) = true := by simp; omega
    go_enter Try.func8, Try.ntmps8
    go_wp2_with fail
    refine (AW.out _).mono ?_
    rintro e u9 ⟨rfl, hb⟩
    go_wp2_with fail
    go_ret
    exact ⟨rfl, hb⟩
  by_cases c5 : 1 < a2
  · skip
    have e1 : decide (a0 < 0) = false := by simp; omega
    have e2 : decide (4095 < a0) = false := by simp; omega
    have e3 : decide (a1 < 0) = false := by simp; omega
    have e4 : decide (a2 < 0) = false := by simp; omega
    have e5 : decide (1 < a2) = true := by simp; omega
    go_enter Try.func8, Try.ntmps8
    go_wp2_with fail
    refine (AW.out _).mono ?_
    rintro e u9 ⟨rfl, hb⟩
    go_wp2_with fail
    go_ret
    exact ⟨rfl, hb⟩
  have e1 : decide (a0 < 0) = false := by simp; omega
  have e2 : decide (4095 < a0) = false := by simp; omega
  have e3 : decide (a1 < 0) = false := by simp; omega
  have e4 : decide (a2 < 0) = false := by simp; omega
  have e5 : decide (1 < a2) = false := by simp; omega
  obtain ⟨y, rfl⟩ := Int.eq_ofNat_of_zero_le (show 0 ≤ a2 by omega)
  have hy : y < 2 := by omega
  have FI : Hid (∀ (W : World) (k : Nat), k < 16 → IsTlb W w.heap.size (fullT a0 k) → Calls Try.prog 18 #[.pointer (some ⟨w.heap.size, 0, none⟩), .int .i64 ((k : Int) / 8), .agg #[.bool true, .int .i64 a0, .int .i64 k, .int .i64 k, .bool false, .bool false, .bool false, .bool false, .bool false]] W fun e w' => e = .returned (.int .i64 0) ∧ IsTlb w' w.heap.size (fullT a0 (k + 1)) ∧ W.grownBy w' (some w.heap.size)) := fun W k hk h => by
    have o1 : decide (0 ≤ a0) = true := by simp; omega
    have o2 : decide (a0 < 4096) = true := by simp; omega
    have o3 : decide ((0 : Int) ≤ (k : Int)) = true := by simp
    have ok : (lnP a0 k k).ok = true := by
      show (true && (decide (0 ≤ a0) && decide (a0 < 4096) && decide ((0 : Int) ≤ (k : Int)) && decide ((0 : Int) ≤ (k : Int)))) = true
      rw [o1, o2, o3]; rfl
    have := fill_ok w.heap.size (fullT a0 k) (lnP a0 k k) (k / 8) (k % 8) (by omega) ok (by show (0 : Int) ≤ (k : Int); omega) (by show (k : Int) % 8 = _; omega) W h
    rw [show ((k : Int) / 8) = ((k / 8 : Nat) : Int) by omega]
    exact this.mono fun e w' ⟨h1, h2, h3⟩ => ⟨h1, h2.congr (fun i hi => full_step a0 k hk i hi), h3⟩
  have LI : Hid (∀ (W : World) (k : Nat), k ≤ 16 → IsTlb W w.heap.size (fullT a0 k) → Calls Try.prog 11 #[.pointer (some ⟨w.heap.size, 0, none⟩)] W fun e w' => (∃ (p : Option Addr) (c : Nat), e = .returned (.slice p k c)) ∧ Below W.heap.size W w') := fun W k hk h => (lines_any w.heap.size _ W h).mono fun e w' ⟨v, he, ho, hb⟩ => by
    obtain ⟨p, c, rfl⟩ := own_len ho
    rw [full_len a0 k hk] at he
    exact ⟨⟨p, c, he⟩, hb⟩
  go_enter Try.func8, Try.ntmps8
  go_wp2_with fail
  go_loopw [8] (fun x W => ∃ k : Nat, k ≤ 16 ∧ x = .int .i64 k ∧ Hid (Own w W w.heap.size (fullT a0 k))) (fun x _ => 16 - (intOf x).toNat)
  case atStart => exact ⟨0, by omega, rfl, M⟩
  case round =>
    obtain ⟨k, hk, rfl, K⟩ := hrel
    by_cases hlt : k < 16
    · have hd : decide ((k : Int) < 16) = true := by simp; omega
      go_wp2_with fail
      refine (FI.out _ k hlt K.out.1).mono ?_
      rintro e u1 ⟨rfl, h1, h2⟩
      have K1 : Hid (Own w u1 w.heap.size (fullT a0 (k + 1))) := K.out.next h1 h2
      clear h1 h2 K
      go_wp2_with fail
      refine (LI.out _ (k + 1) (by omega) K1.out.1).mono ?_
      rintro e u2 ⟨⟨pp, cc, rfl⟩, hb⟩
      have K2 : Hid (Own w u2 w.heap.size (fullT a0 (k + 1))) := K1.out.grow hb
      clear hb K1
      go_wp2_with fail
      go_roundw
      case rel => exact ⟨k + 1, by omega, by go_num, K2⟩
      case measure => simp [intOf]; omega
    · obtain rfl : k = 16 := by omega
      clear FI LI
      have hd : decide ((16 : Int) < 16) = false := by decide
      by_cases m1 : a1 < 16
      · have e6 : decide (a1 < 16) = true := by simp; omega
        go_wp2_with fail
        refine (AW.out _).mono ?_
        rintro e u9 ⟨rfl, hb⟩
        have B9 : Hid (Below w.heap.size w u9) := (K.out.grow hb).2.1
        clear hb
        go_wp2_with fail
        go_ret
        exact ⟨rfl, B9.out⟩
      by_cases m2 : 1099511627776 < a1
      · have e6 : decide (a1 < 16) = false := by simp; omega
        have e7 : decide (1099511627776 < a1) = true := by simp; omega
        go_wp2_with fail
        refine (AW.out _).mono ?_
        rintro e u9 ⟨rfl, hb⟩
        have B9 : Hid (Below w.heap.size w u9) := (K.out.grow hb).2.1
        clear hb
        go_wp2_with fail
        go_ret
        exact ⟨rfl, B9.out⟩
      have e6 : decide (a1 < 16) = false := by simp; omega
      have e7 : decide (1099511627776 < a1) = false := by simp; omega
      have FM : Hid (∀ W : World, IsTlb W w.heap.size (fullT a0 16) → Calls Try.prog 18 #[.pointer (some ⟨w.heap.size, 0, none⟩), .int .i64 y, .agg #[.bool true, .int .i64 a0, .int .i64 a1, .int .i64 77, .bool false, .bool false, .bool false, .bool false, .bool false]] W fun e w' => e = .returned (.int .i64 0) ∧ IsTlb w' w.heap.size (moreT a0 (2 * (a1 % 8).toNat + y) (lnP a0 a1 77)) ∧ W.grownBy w' (some w.heap.size)) := fun W h => by
        have o1 : decide (0 ≤ a0) = true := by simp; omega
        have o2 : decide (a0 < 4096) = true := by simp; omega
        have o3 : decide (0 ≤ a1) = true := by simp; omega
        have ok : (lnP a0 a1 77).ok = true := by
          show (true && (decide (0 ≤ a0) && decide (a0 < 4096) && decide (0 ≤ a1) && decide ((0 : Int) ≤ 77))) = true
          rw [o1, o2, o3]; rfl
        have := fill_ok w.heap.size (fullT a0 16) (lnP a0 a1 77) y (a1 % 8).toNat hy ok (by show 0 ≤ a1; omega) (by show a1 % 8 = _; omega) W h
        exact this.mono fun e w' ⟨h1, h2, h3⟩ => ⟨h1, h2.congr (fun i hi => more_fill a0 a1 (by omega) y i hi), h3⟩
      have GF : Hid (∀ (W : World) (k : Nat), k < 16 → IsTlb W w.heap.size (moreT a0 (2 * (a1 % 8).toNat + y) (lnP a0 a1 77)) → Calls Try.prog 13 #[.pointer (some ⟨w.heap.size, 0, none⟩), .int .i64 a0, .int .i64 k] W fun e w' => (∃ l : Ln, e = .returned (.tuple #[l.val, .bool (!(decide (((a1 % 8).toNat + 8 * y) = k)))])) ∧ Below W.heap.size W w') := fun W k hk h => by
        have := find_any w.heap.size _ a0 (k : Int) W h
        rw [more_find a0 a1 (by omega) y hy k hk] at this
        exact this.mono fun e w' ⟨h1, h2⟩ => ⟨⟨_, h1⟩, h2⟩
      have LM : Hid (∀ W : World, IsTlb W w.heap.size (moreT a0 (2 * (a1 % 8).toNat + y) (lnP a0 a1 77)) → Calls Try.prog 11 #[.pointer (some ⟨w.heap.size, 0, none⟩)] W fun e w' => (∃ (p : Option Addr) (c : Nat), e = .returned (.slice p 16 c)) ∧ Below W.heap.size W w') := fun W h => (lines_any w.heap.size _ W h).mono fun e w' ⟨v, he, ho, hb⟩ => by
        obtain ⟨p, c, rfl⟩ := own_len ho
        rw [more_len] at he
        exact ⟨⟨p, c, he⟩, hb⟩
      have hpg : ((a1 % 8).toNat + 8 * y) < 16 := by omega
      have tm : a1.tmod 8 = a1 % 8 := Int.tmod_eq_emod_of_nonneg (by omega)
      go_wp2_with fail
      refine (FM.out _ K.out.1).mono ?_
      rintro e u1 ⟨rfl, h1, h2⟩
      have K1 : Hid (Own w u1 w.heap.size (moreT a0 (2 * (a1 % 8).toNat + y) (lnP a0 a1 77))) := K.out.next h1 h2
      clear h1 h2 K FM
      go_wp2_with fail
      go_loopw [10, 11] (fun g x W => ∃ (k : Nat) (gi : Int), k ≤ 16 ∧ 0 ≤ gi ∧ gi ≤ 1 ∧ g = .int .i64 gi ∧ x = .int .i64 k ∧ Hid (gi = if ((a1 % 8).toNat + 8 * y) < k then 1 else 0) ∧ Hid (Own w W w.heap.size (moreT a0 (2 * (a1 % 8).toNat + y) (lnP a0 a1 77)))) (fun _ x _ => 16 - (intOf x).toNat)
      case atStart => exact ⟨0, 0, by omega, by omega, by omega, rfl, rfl, by show (0 : Int) = _; rw [if_neg (by omega)], K1⟩
      case round =>
        obtain ⟨k, gi, hk, g0, g1, rfl, rfl, HG, K2⟩ := hrel
        by_cases hlt : k < 16
        · have hd2 : decide ((k : Int) < 16) = true := by simp; omega
          go_wp2_with fail
          refine (GF.out _ k hlt K2.out.1).mono ?_
          rintro e u2 ⟨⟨l, rfl⟩, hb⟩
          have K3 : Hid (Own w u2 w.heap.size (moreT a0 (2 * (a1 % 8).toNat + y) (lnP a0 a1 77))) := K2.out.grow hb
          clear hb K2
          by_cases c : ((a1 % 8).toNat + 8 * y) = k
          · have hc : decide (((a1 % 8).toNat + 8 * y) = k) = true := by simp [c]
            have m8 : ((k : Int) % 8 != a1 % 8) = false := by simp; omega
            have d8 : ((k : Int) / 8 != (y : Int)) = false := by simp; omega
            have HN : Hid (gi + 1 = if ((a1 % 8).toNat + 8 * y) < k + 1 then 1 else 0) := by
              have := HG.out
              show gi + 1 = _
              rw [if_neg (by omega)] at this
              rw [if_pos (by omega), this]; rfl
            have gz : gi = 0 := by
              have := HG.out
              rw [if_neg (by omega)] at this
              exact this
            rw [hc]
            have K4 : Hid (Own w (u2.alloc (.cells #[.bool l.v, .int .i64 l.t, .int .i64 l.p, .int .i64 l.f, .bool l.w, .bool l.u, .bool l.x, .bool l.g, .bool l.d] 26)) w.heap.size (moreT a0 (2 * (a1 % 8).toNat + y) (lnP a0 a1 77))) := K3.out.grow (Go.Joins.below_alloc1 _ _)
            subst gz
            clear c hc
            go_wp2_with fail
            go_roundw
            case rel => exact ⟨k + 1, 1, by omega, by omega, by omega, rfl, by go_num, HN, K4⟩
            case measure => simp [intOf]; omega
          · have hc : decide (((a1 % 8).toNat + 8 * y) = k) = false := by simp [c]
            have HN : Hid (gi = if ((a1 % 8).toNat + 8 * y) < k + 1 then 1 else 0) := by
              have := HG.out
              show gi = _
              rw [this]
              by_cases q : ((a1 % 8).toNat + 8 * y) < k
              · rw [if_pos q, if_pos (by omega)]
              · rw [if_neg q, if_neg (by omega)]
            rw [hc]
            have K4 : Hid (Own w (u2.alloc (.cells #[.bool l.v, .int .i64 l.t, .int .i64 l.p, .int .i64 l.f, .bool l.w, .bool l.u, .bool l.x, .bool l.g, .bool l.d] 26)) w.heap.size (moreT a0 (2 * (a1 % 8).toNat + y) (lnP a0 a1 77))) := K3.out.grow (Go.Joins.below_alloc1 _ _)
            clear c hc
            go_wp2_with fail
            go_roundw
            case rel => exact ⟨k + 1, gi, by omega, g0, g1, rfl, by go_num, HN, K4⟩
            case measure => simp [intOf]; omega
        · obtain rfl : k = 16 := by omega
          have gz : gi = 1 := by
            have := HG.out
            rw [if_pos hpg] at this
            exact this
          subst gz
          clear HG GF
          go_wp2_with fail
          refine (AW.out _).mono ?_
          rintro e u3 ⟨rfl, hb⟩
          have K5 : Hid (Own w u3 w.heap.size (moreT a0 (2 * (a1 % 8).toNat + y) (lnP a0 a1 77))) := K2.out.grow hb
          clear hb K2
          go_wp2_with fail
          refine (LM.out _ K5.out.1).mono ?_
          rintro e u4 ⟨⟨pp, cc, rfl⟩, hb⟩
          have B9 : Hid (Below w.heap.size w u4) := (K5.out.grow hb).2.1
          clear hb K5
          go_wp2_with fail
          go_ret
          exact ⟨rfl, B9.out⟩

theorem own : ownKnob Try.prog.godebug = none := by kernel_rfl
theorem laidOut : laidOutB Try.prog = true := by kernel_rfl
set_option maxRecDepth 100000 in
theorem lifted (os : Os) (started : os.Started) (H : Type) (enc : TypeId × Value → H) :
    ReturnsInHanded {} Try.checked os 8 .any (Rows.tlbFullSpec.pre6 enc Try.prog Try.f8 Rows.tlbFullRow.domain false) (Rows.tlbFullSpec.post enc Try.prog Try.f8 false true false false) := by
  refine returnsInHanded_of_change (C := Try.checked) own started (by kernel_rfl) Try.func8
    (ChangeSpec.witness6 (enc := enc) (C := Try.checked) false ⟨#[], #[.int .i64 0, .int .i64 0, .int .i64 0], []⟩ 8 (by kernel_rfl) (by kernel_rfl) (by kernel_rfl) (by kernel_rfl)) ?_
  intro W base args ds gs before hval0 hW hcnd _
  have hval : ∀ (j : Nat) t v, Try.f8.params[j]? = some t → args[j]? = some v → Value.okWide Try.prog W .any base t v := hval0
  have hW' := hW
  obtain ⟨p, q, hA0, hV, hbef, hfz, hnd⟩ := hW
  have hA : DataW.TrodAll enc Try.prog W 0 (fun _ => true) true Try.f8.params.toList args.toList ds p := hA0
  have hAk := hA
  have hlt : ∀ x ∈ p, x.block < W.heap.size := fun x hx => hW'.lt x (by rw [hbef]; exact List.mem_append_left _ hx)
  rw [Try.params8] at hA hval
  obtain ⟨v0, vs0, d0, ds0, p0, q0, hargs, rfl, hp0, h0, r0⟩ := trodAll_cons hA
  obtain ⟨v1, vs1, d1, ds1, p1, q1, rfl, rfl, hp1, h1, r1⟩ := trodAll_cons r0
  obtain ⟨v2, vs2, d2, ds2, p2, q2, rfl, rfl, hp2, h2, r2⟩ := trodAll_cons r1
  obtain ⟨rfl, rfl, hpz⟩ := trodAll_nil r2
  obtain rfl : args = #[v0, v1, v2] := by cases args; simp_all
  obtain ⟨rfl, rfl⟩ := trodVars_none hV
  obtain ⟨a0, rfl, _, _, w0⟩ := open_int Try.underlying3 (hval 0 3 v0 rfl rfl) h0
  obtain ⟨a1, rfl, _, _, w1⟩ := open_int Try.underlying3 (hval 1 3 v1 rfl rfl) h1
  obtain ⟨a2, rfl, _, _, w2⟩ := open_int Try.underlying3 (hval 2 3 v2 rfl rfl) h2
  clear hA0 hval0
  refine (walk a0 w0 a1 w1 a2 w2 W).mono fun e W' ⟨he, hg⟩ => ?_
  subst he
  exact ⟨_, rfl, ⟨_, _, _, [], p, [], hW', (trodAll_cons_mk (shut_bool Try.underlying4 _) trodAll_mk0), args_stay laidOut hg (by kernel_rfl) hAk hlt, rfl, hg.frame _, fun h => by cases h⟩⟩

theorem over : Rows.tlbFullRow.holds Try.pinned (OpenSpec.ofChange Rows.tlbFullSpec) :=
  OpenClaim.holds_of_wide 8 Try.f8 rfl rfl rfl rfl rfl rfl rfl ⟨rfl, rfl, rfl, rfl, rfl⟩ rfl rfl rfl rfl rfl (by kernel_rfl) Try.func8 (by kernel_rfl)
    (of_decide_eq_true (by kernel_rfl)) (by unfold Func.isWrapper; first | (rw [if_pos (by decide +kernel)]; kernel_rfl) | (rw [if_neg (by decide +kernel)]; exact ⟨rfl, rfl⟩))
    (fun os started H enc _ => lifted os started H enc)

theorem proved : Rows.TlbFullSaid :=
  over
#print axioms proved
end Go.Proofs.Ytdckjoimgddcbaa.tlbFull
