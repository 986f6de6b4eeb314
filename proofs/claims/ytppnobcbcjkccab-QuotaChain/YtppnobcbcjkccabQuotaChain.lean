/- For any root, lent number, length and use: a row of containers, each below the one ahead, may have just what the first one lent; what the last one has nobody else may; no condition. -/
import Derived.Test.YtppnobcbcjkccabRows
import Derived.ProofKit
import Derived.OpenShut
import Derived.Carry
import Derived.Test.YtppnobcbcjkccabQ8
namespace Go.Proofs.Ytppnobcbcjkccab.quotaChain
open Go.ChangeShapes Go.WideShapes Go.ChangeAt Go.RowKit Go.Maps
set_option linter.unusedSimpArgs false
set_option linter.unusedVariables false

set_option maxRecDepth 8000 in
set_option maxHeartbeats 2000000 in
theorem walk (a0 : Int) (w0 : (Lit.int .i64 a0).wf = true) (a1 : Int) (w1 : (Lit.int .i64 a1).wf = true) (a2 : Int) (w2 : (Lit.int .i64 a2).wf = true) (a3 : Int) (w3 : (Lit.int .i64 a3).wf = true) (w : World) :
    Calls Try.prog 6 #[.int .i64 a0, .int .i64 a1, .int .i64 a2, .int .i64 a3] w fun e w' => e = .returned (.bool true) ∧ Below w.heap.size w w' := by
  have AW : Hid (∀ W : World, Calls Try.prog 9 #[] W fun e w' => e = .returned (.bool true) ∧ Below W.heap.size W w') := fun W => awake_any W
  by_cases k0 : a0 < 0
  · have d0 : decide (a0 < 0) = true := by simp [k0]
    go_enter Try.func6, Try.ntmps6
    go_wp2_with fail
    refine (AW.out _).mono ?_
    rintro e u1 ⟨rfl, hb1⟩
    go_wp2_with fail
    go_ret
    exact ⟨rfl, hb1⟩
  have d0 : decide (a0 < 0) = false := by simp; omega
  by_cases k1 : 1048576 < a0
  · have d1 : decide (1048576 < a0) = true := by simp [k1]
    go_enter Try.func6, Try.ntmps6
    go_wp2_with fail
    refine (AW.out _).mono ?_
    rintro e u1 ⟨rfl, hb1⟩
    go_wp2_with fail
    go_ret
    exact ⟨rfl, hb1⟩
  have d1 : decide (1048576 < a0) = false := by simp; omega
  by_cases k2 : a1 < 0
  · have d2 : decide (a1 < 0) = true := by simp [k2]
    go_enter Try.func6, Try.ntmps6
    go_wp2_with fail
    refine (AW.out _).mono ?_
    rintro e u1 ⟨rfl, hb1⟩
    go_wp2_with fail
    go_ret
    exact ⟨rfl, hb1⟩
  have d2 : decide (a1 < 0) = false := by simp; omega
  by_cases k3 : a0 < a1
  · have d3 : decide (a0 < a1) = true := by simp [k3]
    go_enter Try.func6, Try.ntmps6
    go_wp2_with fail
    refine (AW.out _).mono ?_
    rintro e u1 ⟨rfl, hb1⟩
    go_wp2_with fail
    go_ret
    exact ⟨rfl, hb1⟩
  have d3 : decide (a0 < a1) = false := by simp; omega
  by_cases k4 : a2 < 1
  · have d4 : decide (a2 < 1) = true := by simp [k4]
    go_enter Try.func6, Try.ntmps6
    go_wp2_with fail
    refine (AW.out _).mono ?_
    rintro e u1 ⟨rfl, hb1⟩
    go_wp2_with fail
    go_ret
    exact ⟨rfl, hb1⟩
  have d4 : decide (a2 < 1) = false := by simp; omega
  by_cases k5 : 60 < a2
  · have d5 : decide (60 < a2) = true := by simp [k5]
    go_enter Try.func6, Try.ntmps6
    go_wp2_with fail
    refine (AW.out _).mono ?_
    rintro e u1 ⟨rfl, hb1⟩
    go_wp2_with fail
    go_ret
    exact ⟨rfl, hb1⟩
  have d5 : decide (60 < a2) = false := by simp; omega
  by_cases k6 : a3 < 0
  · have d6 : decide (a3 < 0) = true := by simp [k6]
    go_enter Try.func6, Try.ntmps6
    go_wp2_with fail
    refine (AW.out _).mono ?_
    rintro e u1 ⟨rfl, hb1⟩
    go_wp2_with fail
    go_ret
    exact ⟨rfl, hb1⟩
  have d6 : decide (a3 < 0) = false := by simp; omega
  obtain ⟨n, rfl⟩ : ∃ n : Nat, a2 = n := ⟨a2.toNat, by omega⟩
  have n1 : 1 ≤ n := by omega
  have n6 : n ≤ 60 := by omega
  have NW : Hid (∀ W : World, Calls Try.prog 8 #[.int .i64 a0] W fun e w' => e = .returned (.tuple #[.pointer (some ⟨W.heap.size, 0, none⟩), .int .i64 0]) ∧ Own W w' W.heap.size (rootT a0)) := fun W => new_ok a0 (by omega) (by omega) W
  have CH : Hid (∀ (k : Nat), k < 60 → ∀ W : World, IsTree W w.heap.size (chT a0 a1 k) → Calls Try.prog 18 #[.pointer (some ⟨w.heap.size, 0, none⟩), .int .i64 k, .int .i64 a1] W fun e w' => e = .returned (.tuple #[.int .i64 ((k : Int) + 1), .int .i64 0]) ∧ IsTree w' w.heap.size (chT a0 a1 (k + 1)) ∧ W.grownBy w' (some w.heap.size)) := fun k hk W h => by
    have := child_any w.heap.size _ (ch_good a0 a1 (by omega) (by omega) k).okT k a1 W h
    obtain ⟨e1, e2, _⟩ := row_next (ch_row a0 a1 (by omega) (by omega) k (by omega)) (by omega) (by omega) hk
    rw [e1, e2] at this; exact this
  have RM : Hid (∀ (k : Nat), k < 60 → ∀ W : World, IsTree W w.heap.size (chT a0 a1 (k + 1)) → Calls Try.prog 12 #[.pointer (some ⟨w.heap.size, 0, none⟩), .int .i64 k] W fun e w' => e = .returned (.int .i64 (if k = 0 then a0 - a1 else 0)) ∧ Below W.heap.size W w') := fun k hk W h => by
    have := room_any w.heap.size _ (ch_good a0 a1 (by omega) (by omega) (k + 1)).okT k W h
    obtain ⟨e1, e2⟩ := row_step_room (ch_row a0 a1 (by omega) (by omega) (k + 1) (by omega)) hk
    by_cases c : k = 0
    · rw [if_pos c]; rw [e1 c] at this; exact this
    · rw [if_neg c]; rw [e2 c] at this; exact this
  have GC : Hid (Good (chT a0 a1 n) a0) := ch_good a0 a1 (by omega) (by omega) n
  have RC : Hid (Row (chT a0 a1 n) a0 a1 n) := ch_row a0 a1 (by omega) (by omega) n n6
  go_enter Try.func6, Try.ntmps6
  go_wp2_with fail
  refine (NW.out _).mono ?_
  rintro e u0 ⟨rfl, h0⟩
  have M0 : Hid (Own w u0 w.heap.size (chT a0 a1 0)) := h0
  clear h0 NW
  go_wp2_with fail
  go_loopw [11, 12] (fun y x W => ∃ k : Nat, k ≤ n ∧ y = .int .i64 k ∧ x = .int .i64 k ∧ Hid (Own w W w.heap.size (chT a0 a1 k))) (fun _ x _ => n - (intOf x).toNat)
  case atStart => exact ⟨0, by omega, rfl, rfl, M0⟩
  case round =>
    obtain ⟨k, hk, rfl, rfl, hM⟩ := hrel
    by_cases hlt : k < n
    · have hd : decide ((k : Int) < (n : Int)) = true := by simp; omega
      go_wp2_with fail
      refine (CH.out k (by omega) _ hM.out.1).mono ?_
      rintro e u1 ⟨rfl, h1, h2⟩
      have M1 : Hid (Own w u1 w.heap.size (chT a0 a1 (k + 1))) := hM.out.next h1 h2
      clear h1 h2
      go_wp2_with fail
      refine (RM.out k (by omega) _ M1.out.1).mono ?_
      rintro e u2 ⟨rfl, hb⟩
      have M2 : Hid (Own w u2 w.heap.size (chT a0 a1 (k + 1))) := M1.out.grow hb
      clear hb
      by_cases c : k = 0
      · subst c
        rw [if_pos rfl]
        by_cases z : a0 - a1 = 0
        · have zb : (a0 - a1 == 0) = true := by simp [z]
          go_wp2_with fail
          go_roundw
          case rel => exact ⟨0 + 1, by omega, by go_num, by go_num, M2⟩
          case measure => simp [intOf]; omega
        · have zb : (a0 - a1 == 0) = false := by simp [z]
          go_wp2_with fail
          go_roundw
          case rel => exact ⟨0 + 1, by omega, by go_num, by go_num, M2⟩
          case measure => simp [intOf]; omega
      · rw [if_neg c]
        go_wp2_with fail
        go_roundw
        case rel => exact ⟨k + 1, by omega, by go_num, by go_num, M2⟩
        case measure => simp [intOf]; omega
    · obtain rfl : k = n := by omega
      have hd : decide ((k : Int) < (k : Int)) = false := by simp
      clear CH RM
      by_cases cu : a3 ≤ a1
      · have du : decide (a3 ≤ a1) = true := by simp [cu]
        obtain ⟨q1, q2, q3, q4⟩ := chain_ok RC.out (by omega) (by omega) n1 n6 (by omega) cu
        have CG : Hid (∀ W : World, IsTree W w.heap.size (chT a0 a1 k) → Calls Try.prog 19 #[.pointer (some ⟨w.heap.size, 0, none⟩), .int .i64 k, .int .i64 a3] W fun e w' => e = .returned (.int .i64 0) ∧ IsTree w' w.heap.size (chargeT (chT a0 a1 k) k a3) ∧ W.grownBy w' (some w.heap.size)) := fun W h => by
          have := charge_any w.heap.size _ GC.out.okT k a3 W h
          rw [q1] at this; exact this
        have R1 : Hid (∀ W : World, IsTree W w.heap.size (chargeT (chT a0 a1 k) k a3) → Calls Try.prog 12 #[.pointer (some ⟨w.heap.size, 0, none⟩), .int .i64 k] W fun e w' => e = .returned (.int .i64 (a1 - a3)) ∧ Below W.heap.size W w') := fun W h => by
          have := room_any w.heap.size _ (GC.out.charge k a3).okT k W h
          rw [q2] at this; exact this
        have R2 : Hid (∀ W : World, IsTree W w.heap.size (chargeT (chT a0 a1 k) k a3) → Calls Try.prog 12 #[.pointer (some ⟨w.heap.size, 0, none⟩), .int .i64 0] W fun e w' => e = .returned (.int .i64 (a0 - a1)) ∧ Below W.heap.size W w') := fun W h => by
          have := room_any w.heap.size _ (GC.out.charge k a3).okT 0 W h
          rw [q3] at this; exact this
        have C2 : Hid (2 ≤ k → ∀ W : World, IsTree W w.heap.size (chargeT (chT a0 a1 k) k a3) → Calls Try.prog 19 #[.pointer (some ⟨w.heap.size, 0, none⟩), .int .i64 1, .int .i64 1] W fun e w' => e = .returned (.int .i64 8) ∧ IsTree w' w.heap.size (chargeT (chargeT (chT a0 a1 k) k a3) 1 1) ∧ W.grownBy w' (some w.heap.size)) := fun h2 W h => by
          have := charge_any w.heap.size _ (GC.out.charge k a3).okT 1 1 W h
          rw [q4 h2] at this; exact this
        clear q1 q2 q3 q4
        go_wp2_with fail
        refine (CG.out _ hM.out.1).mono ?_
        rintro e u1 ⟨rfl, h1, h2⟩
        have M1 : Hid (Own w u1 w.heap.size (chargeT (chT a0 a1 k) k a3)) := hM.out.next h1 h2
        clear h1 h2 hM
        go_wp2_with fail
        refine (AW.out _).mono ?_
        rintro e u2 ⟨rfl, hb⟩
        have M2 : Hid (Own w u2 w.heap.size (chargeT (chT a0 a1 k) k a3)) := M1.out.grow hb
        clear hb M1
        go_wp2_with fail
        refine (R1.out _ M2.out.1).mono ?_
        rintro e u3 ⟨rfl, hb⟩
        have M3 : Hid (Own w u3 w.heap.size (chargeT (chT a0 a1 k) k a3)) := M2.out.grow hb
        clear hb M2
        go_wp2_with fail
        refine (R2.out _ M3.out.1).mono ?_
        rintro e u4 ⟨rfl, hb⟩
        have M4 : Hid (Own w u4 w.heap.size (chargeT (chT a0 a1 k) k a3)) := M3.out.grow hb
        clear hb M3
        by_cases c2 : k < 2
        · have dd : decide ((k : Int) < 2) = true := by simp; omega
          go_wp2_with fail
          go_ret
          exact ⟨rfl, M4.out.2.1⟩
        · have dd : decide ((k : Int) < 2) = false := by simp; omega
          go_wp2_with fail
          refine (C2.out (by omega) _ M4.out.1).mono ?_
          rintro e u5 ⟨rfl, h1, h2⟩
          have M5 : Hid (Own w u5 w.heap.size _) := M4.out.next h1 h2
          clear h1 h2 M4
          go_wp2_with fail
          go_ret
          exact ⟨rfl, M5.out.2.1⟩
      · have du : decide (a3 ≤ a1) = false := by simp; omega
        obtain ⟨q1, q2, q3, q4⟩ := chain_no RC.out (by omega) (by omega) n1 n6 (by omega) (by omega)
        have CG : Hid (∀ W : World, IsTree W w.heap.size (chT a0 a1 k) → Calls Try.prog 19 #[.pointer (some ⟨w.heap.size, 0, none⟩), .int .i64 k, .int .i64 a3] W fun e w' => e = .returned (.int .i64 8) ∧ IsTree w' w.heap.size (chargeT (chT a0 a1 k) k a3) ∧ W.grownBy w' (some w.heap.size)) := fun W h => by
          have := charge_any w.heap.size _ GC.out.okT k a3 W h
          rw [q1] at this; exact this
        have R1 : Hid (∀ W : World, IsTree W w.heap.size (chargeT (chT a0 a1 k) k a3) → Calls Try.prog 12 #[.pointer (some ⟨w.heap.size, 0, none⟩), .int .i64 k] W fun e w' => e = .returned (.int .i64 (a1)) ∧ Below W.heap.size W w') := fun W h => by
          have := room_any w.heap.size _ (GC.out.charge k a3).okT k W h
          rw [q2] at this; exact this
        have R2 : Hid (∀ W : World, IsTree W w.heap.size (chargeT (chT a0 a1 k) k a3) → Calls Try.prog 12 #[.pointer (some ⟨w.heap.size, 0, none⟩), .int .i64 0] W fun e w' => e = .returned (.int .i64 (a0 - a1)) ∧ Below W.heap.size W w') := fun W h => by
          have := room_any w.heap.size _ (GC.out.charge k a3).okT 0 W h
          rw [q3] at this; exact this
        have C2 : Hid (2 ≤ k → ∀ W : World, IsTree W w.heap.size (chargeT (chT a0 a1 k) k a3) → Calls Try.prog 19 #[.pointer (some ⟨w.heap.size, 0, none⟩), .int .i64 1, .int .i64 1] W fun e w' => e = .returned (.int .i64 8) ∧ IsTree w' w.heap.size (chargeT (chargeT (chT a0 a1 k) k a3) 1 1) ∧ W.grownBy w' (some w.heap.size)) := fun h2 W h => by
          have := charge_any w.heap.size _ (GC.out.charge k a3).okT 1 1 W h
          rw [q4 h2] at this; exact this
        clear q1 q2 q3 q4
        go_wp2_with fail
        refine (CG.out _ hM.out.1).mono ?_
        rintro e u1 ⟨rfl, h1, h2⟩
        have M1 : Hid (Own w u1 w.heap.size (chargeT (chT a0 a1 k) k a3)) := hM.out.next h1 h2
        clear h1 h2 hM
        go_wp2_with fail
        refine (AW.out _).mono ?_
        rintro e u2 ⟨rfl, hb⟩
        have M2 : Hid (Own w u2 w.heap.size (chargeT (chT a0 a1 k) k a3)) := M1.out.grow hb
        clear hb M1
        go_wp2_with fail
        refine (R1.out _ M2.out.1).mono ?_
        rintro e u3 ⟨rfl, hb⟩
        have M3 : Hid (Own w u3 w.heap.size (chargeT (chT a0 a1 k) k a3)) := M2.out.grow hb
        clear hb M2
        go_wp2_with fail
        refine (R2.out _ M3.out.1).mono ?_
        rintro e u4 ⟨rfl, hb⟩
        have M4 : Hid (Own w u4 w.heap.size (chargeT (chT a0 a1 k) k a3)) := M3.out.grow hb
        clear hb M3
        by_cases c2 : k < 2
        · have dd : decide ((k : Int) < 2) = true := by simp; omega
          go_wp2_with fail
          go_ret
          exact ⟨rfl, M4.out.2.1⟩
        · have dd : decide ((k : Int) < 2) = false := by simp; omega
          go_wp2_with fail
          refine (C2.out (by omega) _ M4.out.1).mono ?_
          rintro e u5 ⟨rfl, h1, h2⟩
          have M5 : Hid (Own w u5 w.heap.size _) := M4.out.next h1 h2
          clear h1 h2 M4
          go_wp2_with fail
          go_ret
          exact ⟨rfl, M5.out.2.1⟩

theorem own : ownKnob Try.prog.godebug = none := by kernel_rfl
theorem laidOut : laidOutB Try.prog = true := by kernel_rfl
set_option maxRecDepth 100000 in
theorem lifted (os : Os) (started : os.Started) (H : Type) (enc : TypeId × Value → H) :
    ReturnsInHanded {} Try.checked os 6 .any (Rows.quotaChainSpec.pre6 enc Try.prog Try.f6 Rows.quotaChainRow.domain false) (Rows.quotaChainSpec.post enc Try.prog Try.f6 false true false false) := by
  refine returnsInHanded_of_change (C := Try.checked) own started (by kernel_rfl) Try.func6
    (ChangeSpec.witness6 (enc := enc) (C := Try.checked) false ⟨#[], #[.int .i64 0, .int .i64 0, .int .i64 0, .int .i64 0], []⟩ 8 (by kernel_rfl) (by kernel_rfl) (by kernel_rfl) (by kernel_rfl)) ?_
  intro W base args ds gs before hval0 hW hcnd _
  have hval : ∀ (j : Nat) t v, Try.f6.params[j]? = some t → args[j]? = some v → Value.okWide Try.prog W .any base t v := hval0
  have hW' := hW
  obtain ⟨p, q, hA0, hV, hbef, hfz, hnd⟩ := hW
  have hA : DataW.TrodAll enc Try.prog W 0 (fun _ => true) true Try.f6.params.toList args.toList ds p := hA0
  have hAk := hA
  have hlt : ∀ x ∈ p, x.block < W.heap.size := fun x hx => hW'.lt x (by rw [hbef]; exact List.mem_append_left _ hx)
  rw [Try.params6] at hA hval
  obtain ⟨v0, vs0, d0, ds0, p0, q0, hargs, rfl, hp0, h0, r0⟩ := trodAll_cons hA
  obtain ⟨v1, vs1, d1, ds1, p1, q1, rfl, rfl, hp1, h1, r1⟩ := trodAll_cons r0
  obtain ⟨v2, vs2, d2, ds2, p2, q2, rfl, rfl, hp2, h2, r2⟩ := trodAll_cons r1
  obtain ⟨v3, vs3, d3, ds3, p3, q3, rfl, rfl, hp3, h3, r3⟩ := trodAll_cons r2
  obtain ⟨rfl, rfl, hpz⟩ := trodAll_nil r3
  obtain rfl : args = #[v0, v1, v2, v3] := by cases args; simp_all
  obtain ⟨rfl, rfl⟩ := trodVars_none hV
  obtain ⟨a0, rfl, _, _, w0⟩ := open_int Try.underlying3 (hval 0 3 v0 rfl rfl) h0
  obtain ⟨a1, rfl, _, _, w1⟩ := open_int Try.underlying3 (hval 1 3 v1 rfl rfl) h1
  obtain ⟨a2, rfl, _, _, w2⟩ := open_int Try.underlying3 (hval 2 3 v2 rfl rfl) h2
  obtain ⟨a3, rfl, _, _, w3⟩ := open_int Try.underlying3 (hval 3 3 v3 rfl rfl) h3
  clear hA0 hval0
  refine (walk a0 w0 a1 w1 a2 w2 a3 w3 W).mono fun e W' ⟨he, hg⟩ => ?_
  subst he
  exact ⟨_, rfl, ⟨_, _, _, [], p, [], hW', (trodAll_cons_mk (shut_bool Try.underlying4 _) trodAll_mk0), args_stay laidOut hg (by kernel_rfl) hAk hlt, rfl, hg.frame _, fun h => by cases h⟩⟩

theorem over : Rows.quotaChainRow.holds Try.pinned (OpenSpec.ofChange Rows.quotaChainSpec) :=
  OpenClaim.holds_of_wide 6 Try.f6 rfl rfl rfl rfl rfl rfl rfl ⟨rfl, rfl, rfl, rfl, rfl⟩ rfl rfl rfl rfl rfl (by kernel_rfl) Try.func6 (by kernel_rfl)
    (of_decide_eq_true (by kernel_rfl)) (by unfold Func.isWrapper; first | (rw [if_pos (by decide +kernel)]; kernel_rfl) | (rw [if_neg (by decide +kernel)]; exact ⟨rfl, rfl⟩))
    (fun os started H enc _ => lifted os started H enc)

theorem proved : Rows.QuotaChainSaid :=
  over
#print axioms proved
end Go.Proofs.Ytppnobcbcjkccab.quotaChain
