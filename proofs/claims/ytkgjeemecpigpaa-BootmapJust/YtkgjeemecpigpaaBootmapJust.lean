/- For any two lists of ranges and any number: what is left of the first (of at most 30) without the second (of at most 30) rises and doesn't meet, and a number lies in it just if it lies in one of the first and in none of the second; merged ranges have just their numbers; no condition. -/
import Derived.Test.YtkgjeemecpigpaaRows
import Derived.ProofKit
import Derived.OpenShut
import Derived.Carry
import Derived.Test.YtkgjeemecpigpaaOH
import Derived.Sort.BigQuietIn
namespace Go.Proofs.Ytkgjeemecpigpaa.bootmapJust
open Go.ChangeShapes Go.WideShapes Go.ChangeAt Go.RowKit Go.Maps
set_option linter.unusedSimpArgs false
set_option linter.unusedVariables false
open Go.Proofs.Ytkgjeemecpigpaa.Bm
theorem some_bool (p : Prop) : ∃ z : Bool, z = true ↔ p := ⟨@decide p (Classical.propDecidable p), by simp⟩

set_option maxRecDepth 8000 in
set_option maxHeartbeats 8000000 in
theorem walk (p0 : Option Addr) (n0 c0 : Nat) (F0 : Nat → Int × Int) (m0 : n0 ≤ maxLen) (l0 : n0 ≤ c0) (p1 : Option Addr) (n1 c1 : Nat) (F1 : Nat → Int × Int) (m1 : n1 ≤ maxLen) (l1 : n1 ≤ c1) (a2 : Int) (w2 : (Lit.int .i64 a2).wf = true) (w : World) (H0 : IsRgs w p0 n0 F0) (H1 : IsRgs w p1 n1 F1) :
    Calls Try.prog 6 #[.slice p0 n0 c0, .slice p1 n1 c1, .int .i64 a2] w fun e w' => e = .returned (.bool true) ∧ Below w.heap.size w w' := by
  have C0 : Hid (_) := few_any p0 n0 c0 ((List.range n0).map F0) (by simp) l0 w (rgs_src H0)
  have C1 : Hid (∀ W : World, Below w.heap.size w W → _) := fun W hb => few_any p1 n1 c1 ((List.range n1).map F1) (by simp) l1 W ((rgs_src H1).below hb)
  generalize (List.range n0).map F0 = L0 at C0
  generalize (List.range n1).map F1 = L1 at C1
  have AC : Hid (∀ W : World, _) := fun W => awake_any W
  clear H0 H1
  go_enter Try.func6, Try.ntmps6
  go_wp2_with fail
  refine Calls.mono C0.out ?_
  rintro e w1 ⟨g0, k0, rfl, O0, hb⟩
  have RA : Hid (RL w1 0 (.slice (some ⟨g0, 0, none⟩) (L0.take 30).length k0) (L0.take 30)) := (ol_ll eR_len O0).low (Nat.zero_le _)
  have BW : Hid (Below w.heap.size w w1) := hb
  have HL : Hid ((L0.take 30).length ≤ 30) := by show _ ≤ _; rw [List.length_take]; omega
  clear O0 hb C0
  generalize Value.slice (some ⟨g0, 0, none⟩) (L0.take 30).length k0 = v0 at RA ⊢
  generalize L0.take 30 = L at RA HL
  go_wp2_with fail
  refine Calls.mono (C1.out w1 BW.out) ?_
  rintro e w2 ⟨g1, k1, rfl, O1, hb⟩
  have RAq : Hid (RL w2 0 v0 L) := RA.out.below hb
  have BWq : Hid (Below w.heap.size w w2) := below_then BW.out hb
  clear RA BW
  have RA := RAq
  have BW := BWq
  clear RAq BWq
  have RB : Hid (RL w2 0 (.slice (some ⟨g1, 0, none⟩) (L1.take 30).length k1) (L1.take 30)) := (ol_ll eR_len O1).low (Nat.zero_le _)
  have HA : Hid ((L1.take 30).length ≤ 30) := by show _ ≤ _; rw [List.length_take]; omega
  clear O1 hb C1
  generalize Value.slice (some ⟨g1, 0, none⟩) (L1.take 30).length k1 = v1 at RB ⊢
  generalize L1.take 30 = A at RB HA
  have HLA : L.length * (A.length + 1) ≤ 30 * 31 := Nat.mul_le_mul HL.out (by have := HA.out; omega)
  have LC : Hid _ := less_call 0 0 v0 v1 L A (by have := HL.out; omega) (by have := HA.out; omega) (by omega) w2 RA.out RB.out
  have HLA2 : Hid (L.length * (A.length + 1) ≤ 930) := HLA
  clear HLA
  go_wp2_with fail
  refine Calls.mono LC.out ?_
  rintro e w3 ⟨v7, M, rfl, O7, CM, SM, LM, hb⟩
  have RAq : Hid (RL w3 0 v0 L) := RA.out.below hb
  have BWq : Hid (Below w.heap.size w w3) := below_then BW.out hb
  have RBq : Hid (RL w3 0 v1 A) := RB.out.below hb
  clear RA BW RB
  have RA := RAq
  have BW := BWq
  have RB := RBq
  clear RAq BWq RBq
  have RM : Hid (RL w3 0 v7 M) := (ol_ll eR_len O7).low (Nat.zero_le _)
  have HM : Hid (Bm.Can M ∧ (∀ n, Has M n ↔ Has L n ∧ ¬ Has A n) ∧ M.length ≤ 930) := ⟨CM, SM, by have := HLA2.out; omega⟩
  clear O7 CM SM LM hb LC HLA2
  obtain ⟨pm, cm, hvm, _, _, rd⟩ := RM.out.form
  have RD : Hid (∀ i (hi : i < M.length), ∃ g o, pm = some ⟨g, o, none⟩ ∧ 0 ≤ g ∧ g < w3.heap.size ∧ ∀ j, j < 2 → w3.cell? ⟨g, o + i * 2 + j, none⟩ = (eR M[i])[j]?) := rd
  obtain ⟨m, hm⟩ : ∃ m, M.length = m := ⟨_, rfl⟩
  have HN : Hid (M.length = m) := hm
  have m9 : m ≤ 930 := by rw [← hm]; exact HM.out.2.2
  rw [hm] at hvm
  have RM2 : Hid (RL w3 0 (.slice pm m cm) M) := by rw [← hvm]; exact RM.out
  subst hvm
  clear RM rd hm
  go_wp2_with fail
  go_loopw [8, 9, 19] (fun _ _ i W => ∃ k : Nat, k ≤ m ∧ i = .int .i64 k ∧ Hid (Below w3.heap.size w3 W)) (fun _ _ i _ => m - (Go.RowKit.intOf i).toNat)
  case atStart => exact ⟨0, by omega, rfl, Below.refl _ _⟩
  case round =>
    obtain ⟨k, hk, rfl, J⟩ := hrel
    by_cases ck : k < m
    · have dk : decide ((k : Int) < (m : Int)) = true := decide_eq_true (by omega)
      have d0 : decide ((k : Int) < 0) = false := by simp
      have kS : k < M.length := by rw [HN.out]; exact ck
      obtain ⟨g, og, rfl, _, lg, rc⟩ := RD.out k kS
      have y0 : wr.cell? ⟨g, og + k * 2, none⟩ = some (.int .i64 M[k].1) := (World.cell?_of_block (J.out.block g lg)).trans (rc 0 (by omega))
      have y1 : wr.cell? ⟨g, og + k * 2 + 1, none⟩ = some (.int .i64 M[k].2) := (World.cell?_of_block (J.out.block g lg)).trans (rc 1 (by omega))
      have lgr : g < wr.heap.size := Nat.lt_of_lt_of_le lg J.out.size
      have e1 : decide (M[k].2 ≤ M[k].1) = false := decide_eq_false (by have := HM.out.1.1 M[k] (List.getElem_mem kS); omega)
      have J2 : Hid (Below w3.heap.size w3 (wr.alloc (.cells #[.int .i64 M[k].1, .int .i64 M[k].2] 44))) := below_new J.out _
      by_cases k0 : k = 0
      · subst k0
        generalize M[0].1 = a at *
        generalize M[0].2 = b at *
        have z0 : decide ((0 : Int) < 0) = false := by decide
        rw [Nat.zero_mul, Nat.add_zero] at y0 y1
        clear rc
        go_wp2_with fail
        go_quiet (fail)
        go_wp2_with fail
        go_roundw
        case rel => exact ⟨0 + 1, by omega, by go_num, Bm.below_drewN J2.out⟩
        case measure => simp [Go.RowKit.intOf]; omega
      · have kp : k - 1 < M.length := by omega
        obtain ⟨g', og', e', _, lg', rc'⟩ := RD.out (k - 1) kp
        cases e'
        have y2 : wr.cell? ⟨g, og + (k - 1) * 2 + 1, none⟩ = some (.int .i64 M[k - 1].2) := (World.cell?_of_block (J.out.block g lg)).trans (rc' 1 (by omega))
        have e2 : decide (M[k].1 ≤ M[k - 1].2) = false := decide_eq_false (by
          have := (List.pairwise_iff_getElem.1 HM.out.1.2) (k - 1) k kp kS (by omega)
          omega)
        obtain ⟨t, ht⟩ : ∃ t, k - 1 = t := ⟨_, rfl⟩
        have kt : k = t + 1 := by omega
        generalize M[k].1 = a at *
        generalize M[k].2 = b at *
        generalize M[k - 1].2 = b' at *
        rw [ht] at y2
        have z0 : decide ((0 : Int) < (k : Int)) = true := decide_eq_true (by omega)
        have z1 : decide ((t : Int) < 0) = false := by simp
        have z2 : decide ((t : Int) < (m : Int)) = true := decide_eq_true (by omega)
        have wk : IntKind.i64.wrap ((k : Int) - 1) = (t : Int) := by rw [IntKind.wrap_i64]; omega
        clear rc rc' kS kp ht
        subst kt
        go_wp2_with fail
        go_quiet (fail)
        go_wp2_with fail
        go_roundw
        case rel => exact ⟨t + 1 + 1, by omega, by go_num, Bm.below_drewN J2.out⟩
        case measure => simp [Go.RowKit.intOf]; omega
    · obtain rfl : k = m := by omega
      have dk : decide ((k : Int) < (k : Int)) = false := by simp
      have RA2 : Hid (RL wr 0 v0 L) := RA.out.below J.out
      have RB2 : Hid (RL wr 0 v1 A) := RB.out.below J.out
      have RM3 : Hid (RL wr 0 (.slice pm k cm) M) := RM2.out.below J.out
      have BW2 : Hid (Below w.heap.size w wr) := below_then BW.out J.out
      clear RA RB RM2 BW J RD
      obtain ⟨zL, hL⟩ := some_bool (Has L a2)
      obtain ⟨zA, hA⟩ := some_bool (Has A a2)
      obtain ⟨zM, hMM⟩ := some_bool (Has M a2)
      have ez : zM = (zL && !zA) := by
        rw [Bool.eq_iff_iff, hMM, HM.out.2.1 a2]
        cases zL <;> cases zA <;> simp_all
      have SL : Hid (∀ W : World, RL W 0 v0 L → _) := fun W h => some_any 0 v0 L a2 zL hL (by have := HL.out; omega) W h
      have SA : Hid (∀ W : World, RL W 0 v1 A → _) := fun W h => some_any 0 v1 A a2 zA hA (by have := HA.out; omega) W h
      have SM : Hid (∀ W : World, RL W 0 (.slice pm k cm) M → _) := fun W h => some_any 0 _ M a2 zM hMM (by have := HM.out.2.2; omega) W h
      have MC : Hid (∀ W : World, RL W 0 v0 L → _) := fun W h => merge_any 0 v0 L (by have := HL.out; omega) W h
      have SN : Hid (∀ (v : Value) (N : List (Int × Int)) (W : World), (∀ n, Has N n ↔ Has L n) → N.length ≤ 30 → RL W 0 v N → _) := fun v N W hN hl h => some_any 0 v N a2 zL (hL.trans (hN a2).symm) (by omega) W h
      clear hL hA hMM
      subst ez
      cases zL with
      | true =>
        cases zA with
        | true =>
          simp only [Bool.not_true, Bool.and_false] at SM
          go_wp2_with fail
          refine Calls.mono (AC.out _) ?_
          rintro e u1 ⟨rfl, hb⟩
          have RA2q : Hid (RL u1 0 v0 L) := RA2.out.below hb
          have RB2q : Hid (RL u1 0 v1 A) := RB2.out.below hb
          have RM3q : Hid (RL u1 0 (.slice pm k cm) M) := RM3.out.below hb
          have BW2q : Hid (Below w.heap.size w u1) := below_then BW2.out hb
          clear RA2 RB2 RM3 BW2
          have RA2 := RA2q
          have RB2 := RB2q
          have RM3 := RM3q
          have BW2 := BW2q
          clear RA2q RB2q RM3q BW2q
          clear hb
          go_wp2_with fail
          refine Calls.mono (SM.out _ RM3.out) ?_
          rintro e u2 ⟨rfl, hb⟩
          have RA2q : Hid (RL u2 0 v0 L) := RA2.out.below hb
          have RB2q : Hid (RL u2 0 v1 A) := RB2.out.below hb
          have RM3q : Hid (RL u2 0 (.slice pm k cm) M) := RM3.out.below hb
          have BW2q : Hid (Below w.heap.size w u2) := below_then BW2.out hb
          clear RA2 RB2 RM3 BW2
          have RA2 := RA2q
          have RB2 := RB2q
          have RM3 := RM3q
          have BW2 := BW2q
          clear RA2q RB2q RM3q BW2q
          clear hb
          go_wp2_with fail
          refine Calls.mono (SL.out _ RA2.out) ?_
          rintro e u3 ⟨rfl, hb⟩
          have RA2q : Hid (RL u3 0 v0 L) := RA2.out.below hb
          have RB2q : Hid (RL u3 0 v1 A) := RB2.out.below hb
          have RM3q : Hid (RL u3 0 (.slice pm k cm) M) := RM3.out.below hb
          have BW2q : Hid (Below w.heap.size w u3) := below_then BW2.out hb
          clear RA2 RB2 RM3 BW2
          have RA2 := RA2q
          have RB2 := RB2q
          have RM3 := RM3q
          have BW2 := BW2q
          clear RA2q RB2q RM3q BW2q
          clear hb
          go_wp2_with fail
          refine Calls.mono (SA.out _ RB2.out) ?_
          rintro e u4 ⟨rfl, hb⟩
          have RA2q : Hid (RL u4 0 v0 L) := RA2.out.below hb
          have RB2q : Hid (RL u4 0 v1 A) := RB2.out.below hb
          have RM3q : Hid (RL u4 0 (.slice pm k cm) M) := RM3.out.below hb
          have BW2q : Hid (Below w.heap.size w u4) := below_then BW2.out hb
          clear RA2 RB2 RM3 BW2
          have RA2 := RA2q
          have RB2 := RB2q
          have RM3 := RM3q
          have BW2 := BW2q
          clear RA2q RB2q RM3q BW2q
          clear hb
          go_wp2_with fail
          refine Calls.mono (MC.out _ RA2.out) ?_
          rintro e u5 ⟨v9, N, rfl, O9, _, SS, LN, hb⟩
          have RA2q : Hid (RL u5 0 v0 L) := RA2.out.below hb
          have RB2q : Hid (RL u5 0 v1 A) := RB2.out.below hb
          have RM3q : Hid (RL u5 0 (.slice pm k cm) M) := RM3.out.below hb
          have BW2q : Hid (Below w.heap.size w u5) := below_then BW2.out hb
          clear RA2 RB2 RM3 BW2
          have RA2 := RA2q
          have RB2 := RB2q
          have RM3 := RM3q
          have BW2 := BW2q
          clear RA2q RB2q RM3q BW2q
          have RN : Hid (RL u5 0 v9 N) := (ol_ll eR_len O9).low (Nat.zero_le _)
          have SNC : Hid (∀ W : World, RL W 0 v9 N → _) := fun W h => SN.out v9 N W SS (by have := HL.out; omega) h
          clear hb O9 SS LN
          go_wp2_with fail
          refine Calls.mono (SNC.out _ RN.out) ?_
          rintro e u6 ⟨rfl, hb⟩
          have RA2q : Hid (RL u6 0 v0 L) := RA2.out.below hb
          have RB2q : Hid (RL u6 0 v1 A) := RB2.out.below hb
          have RM3q : Hid (RL u6 0 (.slice pm k cm) M) := RM3.out.below hb
          have BW2q : Hid (Below w.heap.size w u6) := below_then BW2.out hb
          have RNq : Hid (RL u6 0 v9 N) := RN.out.below hb
          clear RA2 RB2 RM3 BW2 RN
          have RA2 := RA2q
          have RB2 := RB2q
          have RM3 := RM3q
          have BW2 := BW2q
          have RN := RNq
          clear RA2q RB2q RM3q BW2q RNq
          clear hb
          go_wp2_with fail
          refine Calls.mono (SL.out _ RA2.out) ?_
          rintro e u7 ⟨rfl, hb⟩
          have RA2q : Hid (RL u7 0 v0 L) := RA2.out.below hb
          have RB2q : Hid (RL u7 0 v1 A) := RB2.out.below hb
          have RM3q : Hid (RL u7 0 (.slice pm k cm) M) := RM3.out.below hb
          have BW2q : Hid (Below w.heap.size w u7) := below_then BW2.out hb
          have RNq : Hid (RL u7 0 v9 N) := RN.out.below hb
          clear RA2 RB2 RM3 BW2 RN
          have RA2 := RA2q
          have RB2 := RB2q
          have RM3 := RM3q
          have BW2 := BW2q
          have RN := RNq
          clear RA2q RB2q RM3q BW2q RNq
          clear hb
          go_wp2_with fail
          go_ret
          exact ⟨rfl, BW2.out⟩
        | false =>
          simp only [Bool.not_false, Bool.and_true] at SM
          go_wp2_with fail
          refine Calls.mono (AC.out _) ?_
          rintro e u1 ⟨rfl, hb⟩
          have RA2q : Hid (RL u1 0 v0 L) := RA2.out.below hb
          have RB2q : Hid (RL u1 0 v1 A) := RB2.out.below hb
          have RM3q : Hid (RL u1 0 (.slice pm k cm) M) := RM3.out.below hb
          have BW2q : Hid (Below w.heap.size w u1) := below_then BW2.out hb
          clear RA2 RB2 RM3 BW2
          have RA2 := RA2q
          have RB2 := RB2q
          have RM3 := RM3q
          have BW2 := BW2q
          clear RA2q RB2q RM3q BW2q
          clear hb
          go_wp2_with fail
          refine Calls.mono (SM.out _ RM3.out) ?_
          rintro e u2 ⟨rfl, hb⟩
          have RA2q : Hid (RL u2 0 v0 L) := RA2.out.below hb
          have RB2q : Hid (RL u2 0 v1 A) := RB2.out.below hb
          have RM3q : Hid (RL u2 0 (.slice pm k cm) M) := RM3.out.below hb
          have BW2q : Hid (Below w.heap.size w u2) := below_then BW2.out hb
          clear RA2 RB2 RM3 BW2
          have RA2 := RA2q
          have RB2 := RB2q
          have RM3 := RM3q
          have BW2 := BW2q
          clear RA2q RB2q RM3q BW2q
          clear hb
          go_wp2_with fail
          refine Calls.mono (SL.out _ RA2.out) ?_
          rintro e u3 ⟨rfl, hb⟩
          have RA2q : Hid (RL u3 0 v0 L) := RA2.out.below hb
          have RB2q : Hid (RL u3 0 v1 A) := RB2.out.below hb
          have RM3q : Hid (RL u3 0 (.slice pm k cm) M) := RM3.out.below hb
          have BW2q : Hid (Below w.heap.size w u3) := below_then BW2.out hb
          clear RA2 RB2 RM3 BW2
          have RA2 := RA2q
          have RB2 := RB2q
          have RM3 := RM3q
          have BW2 := BW2q
          clear RA2q RB2q RM3q BW2q
          clear hb
          go_wp2_with fail
          refine Calls.mono (SA.out _ RB2.out) ?_
          rintro e u4 ⟨rfl, hb⟩
          have RA2q : Hid (RL u4 0 v0 L) := RA2.out.below hb
          have RB2q : Hid (RL u4 0 v1 A) := RB2.out.below hb
          have RM3q : Hid (RL u4 0 (.slice pm k cm) M) := RM3.out.below hb
          have BW2q : Hid (Below w.heap.size w u4) := below_then BW2.out hb
          clear RA2 RB2 RM3 BW2
          have RA2 := RA2q
          have RB2 := RB2q
          have RM3 := RM3q
          have BW2 := BW2q
          clear RA2q RB2q RM3q BW2q
          clear hb
          go_wp2_with fail
          refine Calls.mono (MC.out _ RA2.out) ?_
          rintro e u5 ⟨v9, N, rfl, O9, _, SS, LN, hb⟩
          have RA2q : Hid (RL u5 0 v0 L) := RA2.out.below hb
          have RB2q : Hid (RL u5 0 v1 A) := RB2.out.below hb
          have RM3q : Hid (RL u5 0 (.slice pm k cm) M) := RM3.out.below hb
          have BW2q : Hid (Below w.heap.size w u5) := below_then BW2.out hb
          clear RA2 RB2 RM3 BW2
          have RA2 := RA2q
          have RB2 := RB2q
          have RM3 := RM3q
          have BW2 := BW2q
          clear RA2q RB2q RM3q BW2q
          have RN : Hid (RL u5 0 v9 N) := (ol_ll eR_len O9).low (Nat.zero_le _)
          have SNC : Hid (∀ W : World, RL W 0 v9 N → _) := fun W h => SN.out v9 N W SS (by have := HL.out; omega) h
          clear hb O9 SS LN
          go_wp2_with fail
          refine Calls.mono (SNC.out _ RN.out) ?_
          rintro e u6 ⟨rfl, hb⟩
          have RA2q : Hid (RL u6 0 v0 L) := RA2.out.below hb
          have RB2q : Hid (RL u6 0 v1 A) := RB2.out.below hb
          have RM3q : Hid (RL u6 0 (.slice pm k cm) M) := RM3.out.below hb
          have BW2q : Hid (Below w.heap.size w u6) := below_then BW2.out hb
          have RNq : Hid (RL u6 0 v9 N) := RN.out.below hb
          clear RA2 RB2 RM3 BW2 RN
          have RA2 := RA2q
          have RB2 := RB2q
          have RM3 := RM3q
          have BW2 := BW2q
          have RN := RNq
          clear RA2q RB2q RM3q BW2q RNq
          clear hb
          go_wp2_with fail
          refine Calls.mono (SL.out _ RA2.out) ?_
          rintro e u7 ⟨rfl, hb⟩
          have RA2q : Hid (RL u7 0 v0 L) := RA2.out.below hb
          have RB2q : Hid (RL u7 0 v1 A) := RB2.out.below hb
          have RM3q : Hid (RL u7 0 (.slice pm k cm) M) := RM3.out.below hb
          have BW2q : Hid (Below w.heap.size w u7) := below_then BW2.out hb
          have RNq : Hid (RL u7 0 v9 N) := RN.out.below hb
          clear RA2 RB2 RM3 BW2 RN
          have RA2 := RA2q
          have RB2 := RB2q
          have RM3 := RM3q
          have BW2 := BW2q
          have RN := RNq
          clear RA2q RB2q RM3q BW2q RNq
          clear hb
          go_wp2_with fail
          go_ret
          exact ⟨rfl, BW2.out⟩
      | false =>
        cases zA with
        | true =>
          simp only [Bool.not_true, Bool.and_false, Bool.false_and] at SM
          go_wp2_with fail
          refine Calls.mono (AC.out _) ?_
          rintro e u1 ⟨rfl, hb⟩
          have RA2q : Hid (RL u1 0 v0 L) := RA2.out.below hb
          have RB2q : Hid (RL u1 0 v1 A) := RB2.out.below hb
          have RM3q : Hid (RL u1 0 (.slice pm k cm) M) := RM3.out.below hb
          have BW2q : Hid (Below w.heap.size w u1) := below_then BW2.out hb
          clear RA2 RB2 RM3 BW2
          have RA2 := RA2q
          have RB2 := RB2q
          have RM3 := RM3q
          have BW2 := BW2q
          clear RA2q RB2q RM3q BW2q
          clear hb
          go_wp2_with fail
          refine Calls.mono (SM.out _ RM3.out) ?_
          rintro e u2 ⟨rfl, hb⟩
          have RA2q : Hid (RL u2 0 v0 L) := RA2.out.below hb
          have RB2q : Hid (RL u2 0 v1 A) := RB2.out.below hb
          have RM3q : Hid (RL u2 0 (.slice pm k cm) M) := RM3.out.below hb
          have BW2q : Hid (Below w.heap.size w u2) := below_then BW2.out hb
          clear RA2 RB2 RM3 BW2
          have RA2 := RA2q
          have RB2 := RB2q
          have RM3 := RM3q
          have BW2 := BW2q
          clear RA2q RB2q RM3q BW2q
          clear hb
          go_wp2_with fail
          refine Calls.mono (SL.out _ RA2.out) ?_
          rintro e u3 ⟨rfl, hb⟩
          have RA2q : Hid (RL u3 0 v0 L) := RA2.out.below hb
          have RB2q : Hid (RL u3 0 v1 A) := RB2.out.below hb
          have RM3q : Hid (RL u3 0 (.slice pm k cm) M) := RM3.out.below hb
          have BW2q : Hid (Below w.heap.size w u3) := below_then BW2.out hb
          clear RA2 RB2 RM3 BW2
          have RA2 := RA2q
          have RB2 := RB2q
          have RM3 := RM3q
          have BW2 := BW2q
          clear RA2q RB2q RM3q BW2q
          clear hb
          go_wp2_with fail
          refine Calls.mono (MC.out _ RA2.out) ?_
          rintro e u5 ⟨v9, N, rfl, O9, _, SS, LN, hb⟩
          have RA2q : Hid (RL u5 0 v0 L) := RA2.out.below hb
          have RB2q : Hid (RL u5 0 v1 A) := RB2.out.below hb
          have RM3q : Hid (RL u5 0 (.slice pm k cm) M) := RM3.out.below hb
          have BW2q : Hid (Below w.heap.size w u5) := below_then BW2.out hb
          clear RA2 RB2 RM3 BW2
          have RA2 := RA2q
          have RB2 := RB2q
          have RM3 := RM3q
          have BW2 := BW2q
          clear RA2q RB2q RM3q BW2q
          have RN : Hid (RL u5 0 v9 N) := (ol_ll eR_len O9).low (Nat.zero_le _)
          have SNC : Hid (∀ W : World, RL W 0 v9 N → _) := fun W h => SN.out v9 N W SS (by have := HL.out; omega) h
          clear hb O9 SS LN
          go_wp2_with fail
          refine Calls.mono (SNC.out _ RN.out) ?_
          rintro e u6 ⟨rfl, hb⟩
          have RA2q : Hid (RL u6 0 v0 L) := RA2.out.below hb
          have RB2q : Hid (RL u6 0 v1 A) := RB2.out.below hb
          have RM3q : Hid (RL u6 0 (.slice pm k cm) M) := RM3.out.below hb
          have BW2q : Hid (Below w.heap.size w u6) := below_then BW2.out hb
          have RNq : Hid (RL u6 0 v9 N) := RN.out.below hb
          clear RA2 RB2 RM3 BW2 RN
          have RA2 := RA2q
          have RB2 := RB2q
          have RM3 := RM3q
          have BW2 := BW2q
          have RN := RNq
          clear RA2q RB2q RM3q BW2q RNq
          clear hb
          go_wp2_with fail
          refine Calls.mono (SL.out _ RA2.out) ?_
          rintro e u7 ⟨rfl, hb⟩
          have RA2q : Hid (RL u7 0 v0 L) := RA2.out.below hb
          have RB2q : Hid (RL u7 0 v1 A) := RB2.out.below hb
          have RM3q : Hid (RL u7 0 (.slice pm k cm) M) := RM3.out.below hb
          have BW2q : Hid (Below w.heap.size w u7) := below_then BW2.out hb
          have RNq : Hid (RL u7 0 v9 N) := RN.out.below hb
          clear RA2 RB2 RM3 BW2 RN
          have RA2 := RA2q
          have RB2 := RB2q
          have RM3 := RM3q
          have BW2 := BW2q
          have RN := RNq
          clear RA2q RB2q RM3q BW2q RNq
          clear hb
          go_wp2_with fail
          go_ret
          exact ⟨rfl, BW2.out⟩
        | false =>
          simp only [Bool.not_false, Bool.and_true, Bool.false_and] at SM
          go_wp2_with fail
          refine Calls.mono (AC.out _) ?_
          rintro e u1 ⟨rfl, hb⟩
          have RA2q : Hid (RL u1 0 v0 L) := RA2.out.below hb
          have RB2q : Hid (RL u1 0 v1 A) := RB2.out.below hb
          have RM3q : Hid (RL u1 0 (.slice pm k cm) M) := RM3.out.below hb
          have BW2q : Hid (Below w.heap.size w u1) := below_then BW2.out hb
          clear RA2 RB2 RM3 BW2
          have RA2 := RA2q
          have RB2 := RB2q
          have RM3 := RM3q
          have BW2 := BW2q
          clear RA2q RB2q RM3q BW2q
          clear hb
          go_wp2_with fail
          refine Calls.mono (SM.out _ RM3.out) ?_
          rintro e u2 ⟨rfl, hb⟩
          have RA2q : Hid (RL u2 0 v0 L) := RA2.out.below hb
          have RB2q : Hid (RL u2 0 v1 A) := RB2.out.below hb
          have RM3q : Hid (RL u2 0 (.slice pm k cm) M) := RM3.out.below hb
          have BW2q : Hid (Below w.heap.size w u2) := below_then BW2.out hb
          clear RA2 RB2 RM3 BW2
          have RA2 := RA2q
          have RB2 := RB2q
          have RM3 := RM3q
          have BW2 := BW2q
          clear RA2q RB2q RM3q BW2q
          clear hb
          go_wp2_with fail
          refine Calls.mono (SL.out _ RA2.out) ?_
          rintro e u3 ⟨rfl, hb⟩
          have RA2q : Hid (RL u3 0 v0 L) := RA2.out.below hb
          have RB2q : Hid (RL u3 0 v1 A) := RB2.out.below hb
          have RM3q : Hid (RL u3 0 (.slice pm k cm) M) := RM3.out.below hb
          have BW2q : Hid (Below w.heap.size w u3) := below_then BW2.out hb
          clear RA2 RB2 RM3 BW2
          have RA2 := RA2q
          have RB2 := RB2q
          have RM3 := RM3q
          have BW2 := BW2q
          clear RA2q RB2q RM3q BW2q
          clear hb
          go_wp2_with fail
          refine Calls.mono (MC.out _ RA2.out) ?_
          rintro e u5 ⟨v9, N, rfl, O9, _, SS, LN, hb⟩
          have RA2q : Hid (RL u5 0 v0 L) := RA2.out.below hb
          have RB2q : Hid (RL u5 0 v1 A) := RB2.out.below hb
          have RM3q : Hid (RL u5 0 (.slice pm k cm) M) := RM3.out.below hb
          have BW2q : Hid (Below w.heap.size w u5) := below_then BW2.out hb
          clear RA2 RB2 RM3 BW2
          have RA2 := RA2q
          have RB2 := RB2q
          have RM3 := RM3q
          have BW2 := BW2q
          clear RA2q RB2q RM3q BW2q
          have RN : Hid (RL u5 0 v9 N) := (ol_ll eR_len O9).low (Nat.zero_le _)
          have SNC : Hid (∀ W : World, RL W 0 v9 N → _) := fun W h => SN.out v9 N W SS (by have := HL.out; omega) h
          clear hb O9 SS LN
          go_wp2_with fail
          refine Calls.mono (SNC.out _ RN.out) ?_
          rintro e u6 ⟨rfl, hb⟩
          have RA2q : Hid (RL u6 0 v0 L) := RA2.out.below hb
          have RB2q : Hid (RL u6 0 v1 A) := RB2.out.below hb
          have RM3q : Hid (RL u6 0 (.slice pm k cm) M) := RM3.out.below hb
          have BW2q : Hid (Below w.heap.size w u6) := below_then BW2.out hb
          have RNq : Hid (RL u6 0 v9 N) := RN.out.below hb
          clear RA2 RB2 RM3 BW2 RN
          have RA2 := RA2q
          have RB2 := RB2q
          have RM3 := RM3q
          have BW2 := BW2q
          have RN := RNq
          clear RA2q RB2q RM3q BW2q RNq
          clear hb
          go_wp2_with fail
          refine Calls.mono (SL.out _ RA2.out) ?_
          rintro e u7 ⟨rfl, hb⟩
          have RA2q : Hid (RL u7 0 v0 L) := RA2.out.below hb
          have RB2q : Hid (RL u7 0 v1 A) := RB2.out.below hb
          have RM3q : Hid (RL u7 0 (.slice pm k cm) M) := RM3.out.below hb
          have BW2q : Hid (Below w.heap.size w u7) := below_then BW2.out hb
          have RNq : Hid (RL u7 0 v9 N) := RN.out.below hb
          clear RA2 RB2 RM3 BW2 RN
          have RA2 := RA2q
          have RB2 := RB2q
          have RM3 := RM3q
          have BW2 := BW2q
          have RN := RNq
          clear RA2q RB2q RM3q BW2q RNq
          clear hb
          go_wp2_with fail
          go_ret
          exact ⟨rfl, BW2.out⟩

theorem own : ownKnob Try.prog.godebug = none := by kernel_rfl
theorem laidOut : laidOutB Try.prog = true := by kernel_rfl
set_option maxRecDepth 100000 in
theorem lifted (os : Os) (started : os.Started) (H : Type) (enc : TypeId × Value → H) :
    ReturnsInHanded {} Try.checked os 6 .any (Rows.bootmapJustSpec.pre6 enc Try.prog Try.f6 Rows.bootmapJustRow.domain false) (Rows.bootmapJustSpec.post enc Try.prog Try.f6 false true false false) := by
  refine returnsInHanded_of_change (C := Try.checked) own started (by kernel_rfl) Try.func6
    (ChangeSpec.witness6 (enc := enc) (C := Try.checked) false ⟨#[], #[.slice none 0 0, .slice none 0 0, .int .i64 0], []⟩ 8 (by kernel_rfl) (by kernel_rfl) (by kernel_rfl) (by kernel_rfl)) ?_
  intro W base args ds gs before hval0 hW hcnd _
  have hval : ∀ (j : Nat) t v, Try.f6.params[j]? = some t → args[j]? = some v → Value.okWide Try.prog W .any base t v := hval0
  have hW' := hW
  obtain ⟨p, q, hA0, hV, hbef, hfz, hnd⟩ := hW
  have hA : DataW.TrodAll enc Try.prog W 0 (fun _ => true) true Try.f6.params.toList args.toList ds p := hA0
  have hAk := hA
  have hlt : ∀ x ∈ p, x.block < W.heap.size := fun x hx => hW'.lt x (by rw [hbef]; exact List.mem_append_left _ hx)
  rw [Try.params6] at hA hval
  obtain ⟨v0, vs0, d0, ds0, p0, q0, hargs, rfl, hp0, h0, r0⟩ := trodAll_cons hA
  obtain ⟨v1, vs1, d1, ds1, p1, q1, rfl, rfl, hp1, h1, r1⟩ := trodAll_cons r0
  obtain ⟨v2, vs2, d2, ds2, p2, q2, rfl, rfl, hp2, h2, r2⟩ := trodAll_cons r1
  obtain ⟨rfl, rfl, hpz⟩ := trodAll_nil r2
  obtain rfl : args = #[v0, v1, v2] := by cases args; simp_all
  obtain ⟨rfl, rfl⟩ := trodVars_none hV
  obtain ⟨p0, n0, c0, F0, rfl, m0, l0, H0⟩ := open_rgs (hval 0 38 v0 rfl rfl) h0
  obtain ⟨p1, n1, c1, F1, rfl, m1, l1, H1⟩ := open_rgs (hval 1 38 v1 rfl rfl) h1
  obtain ⟨a2, rfl, _, _, w2⟩ := open_int Try.underlying3 (hval 2 3 v2 rfl rfl) h2
  clear hA0 hval0
  refine (walk p0 n0 c0 F0 m0 l0 p1 n1 c1 F1 m1 l1 a2 w2 W H0 H1).mono fun e W' ⟨he, hg⟩ => ?_
  subst he
  exact ⟨_, rfl, ⟨_, _, _, [], p, [], hW', (trodAll_cons_mk (shut_bool Try.underlying4 _) trodAll_mk0), args_stay laidOut hg (by kernel_rfl) hAk hlt, rfl, hg.frame _, fun h => by cases h⟩⟩

theorem over : Rows.bootmapJustRow.holds Try.pinned (OpenSpec.ofChange Rows.bootmapJustSpec) :=
  OpenClaim.holds_of_wide 6 Try.f6 rfl rfl rfl rfl rfl rfl rfl ⟨rfl, rfl, rfl, rfl, rfl⟩ rfl rfl rfl rfl rfl (by kernel_rfl) Try.func6 (by kernel_rfl)
    (of_decide_eq_true (by kernel_rfl)) (by unfold Func.isWrapper; first | (rw [if_pos (by decide +kernel)]; kernel_rfl) | (rw [if_neg (by decide +kernel)]; exact ⟨rfl, rfl⟩))
    (fun os started H enc _ => lifted os started H enc)

theorem proved : Rows.BootmapJustSaid :=
  over
#print axioms proved
end Go.Proofs.Ytkgjeemecpigpaa.bootmapJust
