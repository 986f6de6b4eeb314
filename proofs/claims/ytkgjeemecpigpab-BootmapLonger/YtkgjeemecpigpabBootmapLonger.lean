/- For any bytes and any two numbers: the frames that come out of (at most 1400 of) the bytes for a memory are just those of a greater memory that lie below its end; an error of the map is told of both; no condition. -/
import Derived.Test.YtkgjeemecpigpabRows
import Derived.ProofKit
import Derived.OpenShut
import Derived.Carry
import Derived.Test.YtkgjeemecpigpabOH
import Derived.Sort.BigQuietIn
namespace Go.Proofs.Ytkgjeemecpigpab.bootmapLonger
open Go.ChangeShapes Go.WideShapes Go.ChangeAt Go.RowKit Go.Maps
set_option linter.unusedSimpArgs false
set_option linter.unusedVariables false
open Go.Proofs.Ytkgjeemecpigpab.Bm
theorem some_bool (p : Prop) : ∃ z : Bool, z = true ↔ p := ⟨@decide p (Classical.propDecidable p), by simp⟩
theorem fz_longer {B : Nat → Int} {n : Nat} {F G z z' : Int} {M N : List (Int × Int)} (h : FZ B n F (0, 0) z M) (h' : FZ B n G (0, 0) z' N) (f1 : 1 ≤ F) (fg : F ≤ G) (g1 : G ≤ 1048576) :
    (z ≠ 0 → z ≠ 7 → z' = z) ∧ ((z = 0 ∨ z = 7) → Bm.Can M ∧ (∀ x, Has M x ↔ Has N x ∧ ¬ Has [(F, G)] x) ∧ (z' ≠ 0 → z = z')) := by
  have gF : Bm.Good F (0, 0) := ⟨f1, by omega, Int.le_refl _, Int.le_refl _, by show (0 : Int) ≤ F; omega⟩
  have gG : Bm.Good G (0, 0) := ⟨by omega, g1, Int.le_refl _, Int.le_refl _, by show (0 : Int) ≤ G; omega⟩
  rcases h with ⟨a, b, c⟩ | ⟨a, y, A, p, q, b, c⟩ | ⟨a, A, p, q, r, b⟩
  · exact absurd gF a
  · rcases h' with ⟨a', b', c'⟩ | ⟨a', y', A', p', q', b', c'⟩ | ⟨a', A', p', q', r', b'⟩
    · exact absurd gG a'
    · refine ⟨fun _ _ => by rw [b, b', (p.one p').1], fun e => ?_⟩
      rcases p.codes with k | k | k | k <;> omega
    · exact absurd (p.one p').1 q
  · rcases h' with ⟨a', b', c'⟩ | ⟨a', y', A', p', q', b', c'⟩ | ⟨a', A', p', q', r', b'⟩
    · exact absurd gG a'
    · exact absurd (p'.one p).1 q'
    · obtain rfl := (p.one p').2
      have s : ∀ x, Has M x ↔ Has N x ∧ ¬ Has [(F, G)] x := fun x => by
        rw [r x, r' x, has_one]
        unfold FR
        have u : Has (useL F A) x ↔ Has (useL G A) x ∧ x < F := by
          constructor
          · rintro ⟨t, ht, h1, h2⟩
            unfold useL at ht
            obtain ⟨y, hy, rfl⟩ := List.mem_map.1 ht
            have h2' : x < min ((y.f + y.l) / 4096) F := h2
            exact ⟨⟨useR G y, List.mem_map.2 ⟨y, hy, rfl⟩, h1, by show x < min ((y.f + y.l) / 4096) G; omega⟩, by omega⟩
          · rintro ⟨⟨t, ht, h1, h2⟩, h3⟩
            unfold useL at ht
            obtain ⟨y, hy, rfl⟩ := List.mem_map.1 ht
            have h2' : x < min ((y.f + y.l) / 4096) G := h2
            exact ⟨useR F y, List.mem_map.2 ⟨y, hy, rfl⟩, h1, by show x < min ((y.f + y.l) / 4096) F; omega⟩
        have v : Has (useL G A) x → x < G := by
          rintro ⟨t, ht, h1, h2⟩
          unfold useL at ht
          obtain ⟨y, hy, rfl⟩ := List.mem_map.1 ht
          have h2' : x < min ((y.f + y.l) / 4096) G := h2
          omega
        rw [u]
        constructor
        · rintro ⟨⟨h1, h2⟩, h3⟩
          exact ⟨⟨h1, h3⟩, fun q => by have : F ≤ x := q.1; omega⟩
        · rintro ⟨⟨h1, h2⟩, h3⟩
          have := v h1
          exact ⟨⟨h1, Int.not_le.1 fun q => h3 ⟨q, this⟩⟩, h2⟩
      have e0 : N = [] → M = [] := fun e => by
        subst e
        cases M with
        | nil => rfl
        | cons hd M => exact absurd ((s hd.1).1 (can_head q)).1 (has_nil _)
      refine ⟨fun n0 n7 => ?_, fun _ => ⟨q, s, fun n0 => ?_⟩⟩
      · rw [b] at n0 n7
        by_cases e : M.length = 0
        · rw [if_pos e] at n7; exact absurd rfl n7
        · rw [if_neg e] at n0; exact absurd rfl n0
      · rw [b'] at n0
        by_cases e : N.length = 0
        · have := e0 (List.eq_nil_of_length_eq_zero e)
          rw [b, b', if_pos e, this]; rfl
        · rw [if_neg e] at n0; exact absurd rfl n0

set_option maxRecDepth 8000 in
set_option maxHeartbeats 8000000 in
theorem walk (p0 : Option Addr) (n0 c0 : Nat) (B0 : Nat → Int) (m0 : n0 ≤ maxLen) (l0 : n0 ≤ c0) (a1 : Int) (w1 : (Lit.int .i64 a1).wf = true) (a2 : Int) (w2 : (Lit.int .i64 a2).wf = true) (w : World) (H0 : IsByts w p0 n0 B0) :
    Calls Try.prog 3 #[.slice p0 n0 c0, .int .i64 a1, .int .i64 a2] w fun e w' => e = .returned (.bool true) ∧ Below w.heap.size w w' := by
  have W1 := bd64 w1
  have W2 := bd64 w2
  obtain ⟨S0, Y0⟩ := byts_src H0
  have C0 : Hid (_) := cut_any p0 n0 c0 ((List.range n0).map B0) (by simp) l0 w S0
  have HY : Hid (Byt (((List.range n0).map B0).take 1400)) := fun x hx => Y0 x (List.mem_of_mem_take hx)
  generalize (List.range n0).map B0 = L0 at C0 HY
  have AC : Hid (∀ W : World, _) := fun W => awake_any W
  clear H0 S0 Y0
  go_enter Try.func3, Try.ntmps3
  go_wp2_with fail
  refine Calls.mono C0.out ?_
  rintro e u1 ⟨g0, k0, rfl, O0, hb⟩
  have BW : Hid (Below w.heap.size w u1) := hb
  obtain ⟨L, hLL⟩ : ∃ L, L0.take 1400 = L := ⟨_, rfl⟩
  rw [hLL] at O0 HY ⊢
  obtain ⟨n, hn⟩ : ∃ n, L.length = n := ⟨_, rfl⟩
  have HN : Hid (n = L.length) := hn.symm
  rw [hn] at O0 ⊢
  have OB : Hid (OL 5 1 eB u1 w.heap.size (.slice (some ⟨g0, 0, none⟩) n k0) L) := O0
  have FC : Hid (∀ (F : Int) (W : World), Below u1.heap.size u1 W → _) := fun F W hb => frames_own g0 n k0 _ L HN.out HY.out F 0 0 W (row_below OB.out hb)
  clear O0 hb C0 hLL hn
  have END : Hid (∀ W : World, Below w.heap.size w W → Calls Try.prog 6 #[] W fun e w' => e = .returned (.bool true) ∧ Below w.heap.size w w') := fun W hb => (AC.out W).mono fun e w' h => ⟨h.1, below_then hb h.2⟩
  by_cases x1 : a1 < 1
  · have dx1 : decide (a1 < 1) = true := decide_eq_true x1
    go_wp2_with fail
    refine Calls.mono (END.out _ BW.out) ?_
    rintro e u2 ⟨rfl, hb⟩
    have HB2 : Hid (Below w.heap.size w u2) := hb
    clear hb
    go_wp2_with fail
    go_ret
    exact ⟨rfl, HB2.out⟩
  have dx1 : decide (a1 < 1) = false := decide_eq_false x1
  by_cases x2 : a2 < 0
  · have dx2 : decide (a2 < 0) = true := decide_eq_true x2
    go_wp2_with fail
    refine Calls.mono (END.out _ BW.out) ?_
    rintro e u2 ⟨rfl, hb⟩
    have HB2 : Hid (Below w.heap.size w u2) := hb
    clear hb
    go_wp2_with fail
    go_ret
    exact ⟨rfl, HB2.out⟩
  have dx2 : decide (a2 < 0) = false := decide_eq_false x2
  by_cases x3 : 524288 < a2
  · have dx3 : decide (524288 < a2) = true := decide_eq_true x3
    go_wp2_with fail
    refine Calls.mono (END.out _ BW.out) ?_
    rintro e u2 ⟨rfl, hb⟩
    have HB2 : Hid (Below w.heap.size w u2) := hb
    clear hb
    go_wp2_with fail
    go_ret
    exact ⟨rfl, HB2.out⟩
  have dx3 : decide (524288 < a2) = false := decide_eq_false x3
  by_cases x4 : 524288 < a1
  · have dx4 : decide (524288 < a1) = true := decide_eq_true x4
    go_wp2_with fail
    refine Calls.mono (END.out _ BW.out) ?_
    rintro e u2 ⟨rfl, hb⟩
    have HB2 : Hid (Below w.heap.size w u2) := hb
    clear hb
    go_wp2_with fail
    go_ret
    exact ⟨rfl, HB2.out⟩
  have dx4 : decide (524288 < a1) = false := decide_eq_false x4
  have sum : IntKind.i64.wrap (a1 + a2) = a1 + a2 := by rw [IntKind.wrap_i64]; omega
  go_wp2_with fail
  refine Calls.mono (FC.out a1 u1 (Below.refl _ _)) ?_
  rintro e u2 ⟨v7, z, M, rfl, R7, fz, m9, hb⟩
  have KW : Hid (Below u1.heap.size u1 u1) := Below.refl _ _
  have BWq : Hid (Below w.heap.size w u2) := below_then BW.out hb
  have KWq : Hid (Below u1.heap.size u1 u2) := below_then KW.out hb
  clear BW KW
  have BW := BWq
  have KW := KWq
  clear BWq KWq
  have RM : Hid (RL u2 0 v7 M) := R7.low (Nat.zero_le _)
  have HFZ : Hid (FZ (BL L) n a1 (0, 0) z M ∧ M.length ≤ 5000) := ⟨fz, m9⟩
  clear R7 fz m9 hb
  go_wp2_with fail
  refine Calls.mono (FC.out (a1 + a2) u2 KW.out) ?_
  rintro e u3 ⟨v9, z', N, rfl, R9, fz, m9, hb⟩
  have BWq : Hid (Below w.heap.size w u3) := below_then BW.out hb
  have KWq : Hid (Below u1.heap.size u1 u3) := below_then KW.out hb
  have RMq : Hid (RL u3 0 v7 M) := RM.out.below hb
  clear BW KW RM
  have BW := BWq
  have KW := KWq
  have RM := RMq
  clear BWq KWq RMq
  have RN : Hid (RL u3 0 v9 N) := R9.low (Nat.zero_le _)
  have LG := fz_longer HFZ.out.1 fz (by omega) (by omega) (by omega)
  have HLG : Hid (_) := LG
  have N9 : Hid (N.length ≤ 5000) := m9
  clear R9 fz m9 hb LG FC KW
  by_cases cz : z ≠ 0 ∧ z ≠ 7
  · have e1 : (z != 0) = true := by simp [cz.1]
    have e2 : (z != 7) = true := by simp [cz.2]
    have n1 : ¬ z = 0 := cz.1
    have n2 : ¬ z = 7 := cz.2
    obtain rfl : z' = z := HLG.out.1 cz.1 cz.2
    have e3 : (z' == z') = true := by simp
    clear cz
    go_wp2_with fail
    refine Calls.mono (END.out _ BW.out) ?_
    rintro e u4 ⟨rfl, hb⟩
    have HB2 : Hid (Below w.heap.size w u4) := hb
    clear hb
    go_wp2_with fail
    go_ret
    exact ⟨rfl, HB2.out⟩
  have cz2 : z = 0 ∨ z = 7 := by
    rcases Decidable.em (z = 0) with e | e
    · exact Or.inl e
    · exact Or.inr (Decidable.byContradiction fun q => cz ⟨e, q⟩)
  have HK : Hid (_) := HLG.out.2 cz2
  clear cz HLG
  rcases cz2 with rfl | rfl
  · by_cases cy : z' = 0
    · subst cy
      go_wp2_with fail
      refine Calls.mono (AC.out _) ?_
      rintro e u4 ⟨rfl, hb⟩
      have BWq : Hid (Below w.heap.size w u4) := below_then BW.out hb
      have RMq : Hid (RL u4 0 v7 M) := RM.out.below hb
      have RNq : Hid (RL u4 0 v9 N) := RN.out.below hb
      clear BW RM RN
      have BW := BWq
      have RM := RMq
      have RN := RNq
      clear BWq RMq RNq
      have hb5 := Go.Joins.below_alloc1 u4 (.cells #[.int .i64 a1, .int .i64 (a1 + a2)] 30)
      have LC : Hid _ := less_call 0 0 v9 (.slice (some ⟨u4.heap.size, 0, none⟩) 1 1) N [(a1, a1 + a2)] (by have := N9.out; omega) (by simp) (by have := N9.out; simp; omega) (u4.alloc (.cells #[.int .i64 a1, .int .i64 (a1 + a2)] 30)) (RN.out.below hb5) ((ol_ll eR_len (ol_one eR_len u4 0 (Nat.zero_le _) (a1, a1 + a2))).low (Nat.zero_le _))
      clear hb
      go_wp2_with fail
      refine Calls.mono LC.out ?_
      rintro e u6 ⟨v8, K, rfl, O9, CK, SK, LK, hb⟩
      have hb6 := below_then hb5 hb
      have BWq : Hid (Below w.heap.size w u6) := below_then BW.out hb6
      have RMq : Hid (RL u6 0 v7 M) := RM.out.below hb6
      have RNq : Hid (RL u6 0 v9 N) := RN.out.below hb6
      clear BW RM RN
      have BW := BWq
      have RM := RMq
      have RN := RNq
      clear BWq RMq RNq
      have RK : Hid (RL u6 0 v8 K) := (ol_ll eR_len O9).low (Nat.zero_le _)
      have EK : K = M := can_eq K M CK HK.out.1 (fun x => (SK x).trans (HK.out.2.1 x).symm)
      subst EK
      have SC : Hid _ := same_any 0 0 v8 v7 K K true ⟨fun _ => rfl, fun _ => rfl⟩ (by have := HFZ.out.2; omega) (by have := HFZ.out.2; omega) u6 RK.out RM.out
      clear hb hb5 hb6 O9 CK SK LK LC
      go_wp2_with fail
      refine Calls.mono SC.out ?_
      rintro e u7 ⟨rfl, hb⟩
      have BW7 : Hid (Below w.heap.size w u7) := below_then BW.out hb
      clear hb
      go_wp2_with fail
      go_ret
      exact ⟨rfl, BW7.out⟩
    · exact absurd (HK.out.2.2 cy).symm cy
  · by_cases cy : z' = 0
    · subst cy
      go_wp2_with fail
      refine Calls.mono (AC.out _) ?_
      rintro e u4 ⟨rfl, hb⟩
      have BWq : Hid (Below w.heap.size w u4) := below_then BW.out hb
      have RMq : Hid (RL u4 0 v7 M) := RM.out.below hb
      have RNq : Hid (RL u4 0 v9 N) := RN.out.below hb
      clear BW RM RN
      have BW := BWq
      have RM := RMq
      have RN := RNq
      clear BWq RMq RNq
      have hb5 := Go.Joins.below_alloc1 u4 (.cells #[.int .i64 a1, .int .i64 (a1 + a2)] 30)
      have LC : Hid _ := less_call 0 0 v9 (.slice (some ⟨u4.heap.size, 0, none⟩) 1 1) N [(a1, a1 + a2)] (by have := N9.out; omega) (by simp) (by have := N9.out; simp; omega) (u4.alloc (.cells #[.int .i64 a1, .int .i64 (a1 + a2)] 30)) (RN.out.below hb5) ((ol_ll eR_len (ol_one eR_len u4 0 (Nat.zero_le _) (a1, a1 + a2))).low (Nat.zero_le _))
      clear hb
      go_wp2_with fail
      refine Calls.mono LC.out ?_
      rintro e u6 ⟨v8, K, rfl, O9, CK, SK, LK, hb⟩
      have hb6 := below_then hb5 hb
      have BWq : Hid (Below w.heap.size w u6) := below_then BW.out hb6
      have RMq : Hid (RL u6 0 v7 M) := RM.out.below hb6
      have RNq : Hid (RL u6 0 v9 N) := RN.out.below hb6
      clear BW RM RN
      have BW := BWq
      have RM := RMq
      have RN := RNq
      clear BWq RMq RNq
      have RK : Hid (RL u6 0 v8 K) := (ol_ll eR_len O9).low (Nat.zero_le _)
      have EK : K = M := can_eq K M CK HK.out.1 (fun x => (SK x).trans (HK.out.2.1 x).symm)
      subst EK
      have SC : Hid _ := same_any 0 0 v8 v7 K K true ⟨fun _ => rfl, fun _ => rfl⟩ (by have := HFZ.out.2; omega) (by have := HFZ.out.2; omega) u6 RK.out RM.out
      clear hb hb5 hb6 O9 CK SK LK LC
      go_wp2_with fail
      refine Calls.mono SC.out ?_
      rintro e u7 ⟨rfl, hb⟩
      have BW7 : Hid (Below w.heap.size w u7) := below_then BW.out hb
      clear hb
      go_wp2_with fail
      go_ret
      exact ⟨rfl, BW7.out⟩
    · have e4 : (z' == 0) = false := by simp [cy]
      have e5 := HK.out.2.2 cy
      subst e5
      go_wp2_with fail
      refine Calls.mono (AC.out _) ?_
      rintro e u4 ⟨rfl, hb⟩
      have BWq : Hid (Below w.heap.size w u4) := below_then BW.out hb
      have RMq : Hid (RL u4 0 v7 M) := RM.out.below hb
      have RNq : Hid (RL u4 0 v9 N) := RN.out.below hb
      clear BW RM RN
      have BW := BWq
      have RM := RMq
      have RN := RNq
      clear BWq RMq RNq
      have hb5 := Go.Joins.below_alloc1 u4 (.cells #[.int .i64 a1, .int .i64 (a1 + a2)] 30)
      have LC : Hid _ := less_call 0 0 v9 (.slice (some ⟨u4.heap.size, 0, none⟩) 1 1) N [(a1, a1 + a2)] (by have := N9.out; omega) (by simp) (by have := N9.out; simp; omega) (u4.alloc (.cells #[.int .i64 a1, .int .i64 (a1 + a2)] 30)) (RN.out.below hb5) ((ol_ll eR_len (ol_one eR_len u4 0 (Nat.zero_le _) (a1, a1 + a2))).low (Nat.zero_le _))
      clear hb
      go_wp2_with fail
      refine Calls.mono LC.out ?_
      rintro e u6 ⟨v8, K, rfl, O9, CK, SK, LK, hb⟩
      have hb6 := below_then hb5 hb
      have BWq : Hid (Below w.heap.size w u6) := below_then BW.out hb6
      have RMq : Hid (RL u6 0 v7 M) := RM.out.below hb6
      have RNq : Hid (RL u6 0 v9 N) := RN.out.below hb6
      clear BW RM RN
      have BW := BWq
      have RM := RMq
      have RN := RNq
      clear BWq RMq RNq
      have RK : Hid (RL u6 0 v8 K) := (ol_ll eR_len O9).low (Nat.zero_le _)
      have EK : K = M := can_eq K M CK HK.out.1 (fun x => (SK x).trans (HK.out.2.1 x).symm)
      subst EK
      have SC : Hid _ := same_any 0 0 v8 v7 K K true ⟨fun _ => rfl, fun _ => rfl⟩ (by have := HFZ.out.2; omega) (by have := HFZ.out.2; omega) u6 RK.out RM.out
      clear hb hb5 hb6 O9 CK SK LK LC
      go_wp2_with fail
      refine Calls.mono SC.out ?_
      rintro e u7 ⟨rfl, hb⟩
      have BW7 : Hid (Below w.heap.size w u7) := below_then BW.out hb
      clear hb
      go_wp2_with fail
      go_ret
      exact ⟨rfl, BW7.out⟩

theorem own : ownKnob Try.prog.godebug = none := by kernel_rfl
theorem laidOut : laidOutB Try.prog = true := by kernel_rfl
set_option maxRecDepth 100000 in
theorem lifted (os : Os) (started : os.Started) (H : Type) (enc : TypeId × Value → H) :
    ReturnsInHanded {} Try.checked os 3 .any (Rows.bootmapLongerSpec.pre6 enc Try.prog Try.f3 Rows.bootmapLongerRow.domain false) (Rows.bootmapLongerSpec.post enc Try.prog Try.f3 false true false false) := by
  refine returnsInHanded_of_change (C := Try.checked) own started (by kernel_rfl) Try.func3
    (ChangeSpec.witness6 (enc := enc) (C := Try.checked) false ⟨#[], #[.slice none 0 0, .int .i64 0, .int .i64 0], []⟩ 8 (by kernel_rfl) (by kernel_rfl) (by kernel_rfl) (by kernel_rfl)) ?_
  intro W base args ds gs before hval0 hW hcnd _
  have hval : ∀ (j : Nat) t v, Try.f3.params[j]? = some t → args[j]? = some v → Value.okWide Try.prog W .any base t v := hval0
  have hW' := hW
  obtain ⟨p, q, hA0, hV, hbef, hfz, hnd⟩ := hW
  have hA : DataW.TrodAll enc Try.prog W 0 (fun _ => true) true Try.f3.params.toList args.toList ds p := hA0
  have hAk := hA
  have hlt : ∀ x ∈ p, x.block < W.heap.size := fun x hx => hW'.lt x (by rw [hbef]; exact List.mem_append_left _ hx)
  rw [Try.params3] at hA hval
  obtain ⟨v0, vs0, d0, ds0, p0, q0, hargs, rfl, hp0, h0, r0⟩ := trodAll_cons hA
  obtain ⟨v1, vs1, d1, ds1, p1, q1, rfl, rfl, hp1, h1, r1⟩ := trodAll_cons r0
  obtain ⟨v2, vs2, d2, ds2, p2, q2, rfl, rfl, hp2, h2, r2⟩ := trodAll_cons r1
  obtain ⟨rfl, rfl, hpz⟩ := trodAll_nil r2
  obtain rfl : args = #[v0, v1, v2] := by cases args; simp_all
  obtain ⟨rfl, rfl⟩ := trodVars_none hV
  obtain ⟨p0, n0, c0, B0, rfl, m0, l0, H0⟩ := open_byts (hval 0 22 v0 rfl rfl) h0
  obtain ⟨a1, rfl, _, _, w1⟩ := open_int Try.underlying3 (hval 1 3 v1 rfl rfl) h1
  obtain ⟨a2, rfl, _, _, w2⟩ := open_int Try.underlying3 (hval 2 3 v2 rfl rfl) h2
  clear hA0 hval0
  refine (walk p0 n0 c0 B0 m0 l0 a1 w1 a2 w2 W H0).mono fun e W' ⟨he, hg⟩ => ?_
  subst he
  exact ⟨_, rfl, ⟨_, _, _, [], p, [], hW', (trodAll_cons_mk (shut_bool Try.underlying4 _) trodAll_mk0), args_stay laidOut hg (by kernel_rfl) hAk hlt, rfl, hg.frame _, fun h => by cases h⟩⟩

theorem over : Rows.bootmapLongerRow.holds Try.pinned (OpenSpec.ofChange Rows.bootmapLongerSpec) :=
  OpenClaim.holds_of_wide 3 Try.f3 rfl rfl rfl rfl rfl rfl rfl ⟨rfl, rfl, rfl, rfl, rfl⟩ rfl rfl rfl rfl rfl (by kernel_rfl) Try.func3 (by kernel_rfl)
    (of_decide_eq_true (by kernel_rfl)) (by unfold Func.isWrapper; first | (rw [if_pos (by decide +kernel)]; kernel_rfl) | (rw [if_neg (by decide +kernel)]; exact ⟨rfl, rfl⟩))
    (fun os started H enc _ => lifted os started H enc)

theorem proved : Rows.BootmapLongerSaid :=
  over
#print axioms proved
end Go.Proofs.Ytkgjeemecpigpab.bootmapLonger
