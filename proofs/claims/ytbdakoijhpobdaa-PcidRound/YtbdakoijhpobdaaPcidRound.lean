/- For any number of tags and any number of spaces up to 9000: spaces that come one after the other get 1 to most, again and again, and a new generation begins just when all were given; no condition. -/
import Derived.Test.YtbdakoijhpobdaaRows
import Derived.ProofKit
import Derived.OpenShut
import Derived.Carry
import Derived.Test.YtbdakoijhpobdaaK4
import Derived.Deep.QuietTactic
import Derived.BigQuiet
namespace Go.Proofs.Ytbdakoijhpobdaa.pcidRound
open Go.ChangeShapes Go.WideShapes Go.ChangeAt Go.RowKit Go.Maps
set_option linter.unusedSimpArgs false
set_option linter.unusedVariables false
/-- behind the spaces 1 to i -/
structure Inv (S : Tg) (m i : Int) : Prop where
  good : Good S
  most : S.most = m
  who : ∀ j, i < j → S.T j = none
  zero : i = 0 → S.next = 1 ∧ S.gen = 0
  more : 0 < i → S.next = (i - 1) % m + 2 ∧ S.gen = (i - 1) / m
theorem inv_fresh (m : Int) (h0 : 1 ≤ m) (h1 : m ≤ 4095) : Inv (freshS m) m 0 := ⟨fresh_good m h0 h1, rfl, fun _ _ => rfl, fun _ => ⟨rfl, rfl⟩, fun h => absurd h (by omega)⟩
theorem dm (m i : Int) (h0 : 1 ≤ m) (hi : 0 < i) : (i % m = 0 ∧ (i - 1) % m = m - 1 ∧ (i - 1) / m + 1 = i / m) ∨ (i % m ≠ 0 ∧ (i - 1) % m = i % m - 1 ∧ (i - 1) / m = i / m) := by
  have e := Int.emod_add_mul_ediv i m
  have r0 := Int.emod_nonneg i (by omega : m ≠ 0)
  have r1 := Int.emod_lt_of_pos i (by omega : 0 < m)
  by_cases c : i % m = 0
  · left
    have : i - 1 = (m - 1) + m * (i / m - 1) := by rw [Int.mul_sub]; omega
    refine ⟨c, ?_, ?_⟩
    · rw [this, Int.add_mul_emod_self_left, Int.emod_eq_of_lt (by omega) (by omega)]
    · rw [this, Int.add_mul_ediv_left _ _ (by omega), Int.ediv_eq_zero_of_lt (by omega) (by omega)]; omega
  · right
    have : i - 1 = (i % m - 1) + m * (i / m) := by omega
    refine ⟨c, ?_, ?_⟩
    · conv => lhs; rw [this]
      rw [Int.add_mul_emod_self_left, Int.emod_eq_of_lt (by omega) (by omega)]
    · conv => lhs; rw [this]
      rw [Int.add_mul_ediv_left _ _ (by omega), Int.ediv_eq_zero_of_lt (by omega) (by omega)]; omega
theorem inv_next {S : Tg} {m i : Int} (h0 : 1 ≤ m) (hi : 0 ≤ i) (h : Inv S m i) : getV S (i + 1) = i % m + 1 ∧ getB S (i + 1) = (decide (0 < i) && (i % m == 0)) ∧ (getS S (i + 1)).gen = i / m ∧ Inv (getS S (i + 1)) m (i + 1) := by
  obtain ⟨g, hm, hw, hz, hp⟩ := h
  have r0 := Int.emod_nonneg i (by omega : m ≠ 0)
  have r1 := Int.emod_lt_of_pos i (by omega : 0 < m)
  have none := hw (i + 1) (by omega)
  have G := g.get (i + 1)
  have HM := (g.ok.get (i + 1)).2.2.trans hm
  have whoAll : ∀ (f : Int → Option Int) (v : Option Int), (∀ j, i + 1 < j → f j = Option.none) → ∀ j, i + 1 < j → setF f (i + 1) v j = Option.none := fun f v hf j hj => by rw [set_other _ _ _ _ (by omega)]; exact hf j hj
  rcases get_cases S (i + 1) with ⟨t, q, _⟩ | ⟨q, c, e1, e2, e3⟩ | ⟨q, c, e1, e2, e3⟩
  · rw [none] at q; cases q
  · rw [hm] at c
    by_cases z : i = 0
    · have := (hz z).1; omega
    · have p := hp (by omega)
      rcases dm m i h0 (by omega) with ⟨d1, d2, d3⟩ | ⟨d1, d2, d3⟩
      · refine ⟨by rw [e1, d1]; rfl, by rw [e2, d1, decide_eq_true (by omega : 0 < i)]; rfl, by rw [e3]; show S.gen + 1 = _; omega, ⟨G, HM, ?_, fun k => (by omega), fun _ => ?_⟩⟩
        · rw [e3]; exact whoAll _ _ (fun _ _ => rfl)
        · rw [e3]; refine ⟨?_, ?_⟩
          · show (2 : Int) = _; rw [show i + 1 - 1 = i by omega, d1]; rfl
          · show S.gen + 1 = _; rw [show i + 1 - 1 = i by omega]; omega
      · omega
  · rw [hm] at c
    by_cases z : i = 0
    · obtain ⟨z1, z2⟩ := hz z
      subst z
      refine ⟨by rw [e1, z1]; simp, by rw [e2]; rfl, by rw [e3]; show S.gen = _; rw [z2]; simp, ⟨G, HM, ?_, fun k => (by omega), fun _ => ?_⟩⟩
      · rw [e3]; exact whoAll _ _ (fun j hj => hw j (by omega))
      · rw [e3]; refine ⟨?_, ?_⟩
        · show S.next + 1 = _; rw [z1]; simp
        · show S.gen = _; rw [z2]; simp
    · have p := hp (by omega)
      rcases dm m i h0 (by omega) with ⟨d1, d2, d3⟩ | ⟨d1, d2, d3⟩
      · omega
      · refine ⟨by rw [e1]; omega, by rw [e2, decide_eq_true (by omega : 0 < i)]; simp [d1], by rw [e3]; show S.gen = _; omega, ⟨G, HM, ?_, fun k => (by omega), fun _ => ?_⟩⟩
        · rw [e3]; exact whoAll _ _ (fun j hj => hw j (by omega))
        · rw [e3]; refine ⟨?_, ?_⟩
          · show S.next + 1 = _; rw [show i + 1 - 1 = i by omega]; omega
          · show S.gen = _; rw [show i + 1 - 1 = i by omega]; omega

set_option maxRecDepth 8000 in
set_option maxHeartbeats 4000000 in
theorem walk (a0 : Int) (w0 : (Lit.int .i64 a0).wf = true) (a1 : Int) (w1 : (Lit.int .i64 a1).wf = true) (w : World)  :
    Calls Try.prog 5 #[.int .i64 a0, .int .i64 a1] w fun e w' => e = .returned (.bool true) ∧ Below w.heap.size w w' := by
  have AWH : Hid (∀ W : World, Calls Try.prog 9 #[] W fun e w' => e = .returned (.bool true) ∧ Below W.heap.size W w') := fun W => awake_any W
  by_cases q0 : a0 < 1 ∨ 4095 < a0
  · have NW : Hid (∀ W : World, Calls Try.prog 8 #[.int .i64 a0] W fun e w' => e = .returned (.tuple #[.pointer none, .int .i64 1]) ∧ w' = W) := fun W => new_no a0 q0 W
    go_enter Try.func5, Try.ntmps5
    go_wp2_with fail
    refine (NW.out _).mono ?_
    rintro e u ⟨rfl, hu⟩
    have hu2 := hu.symm
    subst hu2
    clear hu
    go_wp2_with fail
    refine (AWH.out _).mono ?_
    rintro e u9 ⟨rfl, hb⟩
    have B9 : Hid (Below w.heap.size w u9) := hb
    clear hb
    go_wp2_with fail
    go_ret
    exact ⟨rfl, B9.out⟩
  have NW : Hid (Calls Try.prog 8 #[.int .i64 a0] w fun e w' => e = .returned (.tuple #[.pointer (some ⟨w.heap.size + 2, 0, none⟩), .int .i64 0]) ∧ Own w w' (w.heap.size + 2) w.heap.size (w.heap.size + 1) 0 (freshS a0)) := new_ok a0 (by omega) (by omega) w
  by_cases x1 : a1 < 0
  · have dx1 : decide (a1 < 0) = true := by simp [x1]
    go_enter Try.func5, Try.ntmps5
    go_wp2_with fail
    refine NW.out.mono ?_
    rintro e u0 ⟨rfl, h0⟩
    have M0 : Hid (Own w u0 (w.heap.size + 2) w.heap.size (w.heap.size + 1) 0 (freshS a0)) := h0
    clear h0 NW
    go_wp2_with fail
    refine (AWH.out _).mono ?_
    rintro e u9 ⟨rfl, hb⟩
    have B9 : Hid (Below w.heap.size w u9) := (below_then M0.out.2.1 hb)
    clear hb
    go_wp2_with fail
    go_ret
    exact ⟨rfl, B9.out⟩
  have dx1 : decide (a1 < 0) = false := by simp; omega
  by_cases x2 : 9000 < a1
  · have dx2 : decide (9000 < a1) = true := by simp [x2]
    go_enter Try.func5, Try.ntmps5
    go_wp2_with fail
    refine NW.out.mono ?_
    rintro e u0 ⟨rfl, h0⟩
    have M0 : Hid (Own w u0 (w.heap.size + 2) w.heap.size (w.heap.size + 1) 0 (freshS a0)) := h0
    clear h0 NW
    go_wp2_with fail
    refine (AWH.out _).mono ?_
    rintro e u9 ⟨rfl, hb⟩
    have B9 : Hid (Below w.heap.size w u9) := (below_then M0.out.2.1 hb)
    clear hb
    go_wp2_with fail
    go_ret
    exact ⟨rfl, B9.out⟩
  have dx2 : decide (9000 < a1) = false := by simp; omega
  have GT : Hid (∀ (S : Tg), Good S → S.gen < 4611686018427387904 → ∀ (n : Nat), n < maxLen → ∀ s : Int, (Lit.int .i64 s).wf = true → ∀ W : World, IsTags W (w.heap.size + 2) w.heap.size (w.heap.size + 1) n S → Calls Try.prog 12 #[.pointer (some ⟨w.heap.size + 2, 0, none⟩), .int .i64 s] W fun e w' => e = .returned (.tuple #[.int .i64 (getV S s), .bool (getB S s)]) ∧ IsTags w' (w.heap.size + 2) w.heap.size (w.heap.size + 1) (n + 1) (getS S s) ∧ Kp (w.heap.size + 2) w.heap.size (w.heap.size + 1) W w') := fun S g hg n hn s hs W h => get_any _ _ _ n S s hs g.ok hg hn W h
  have DT : Hid (∀ (S : Tg), Good S → ∀ (n : Nat) (s : Int), (Lit.int .i64 s).wf = true → ∀ W : World, IsTags W (w.heap.size + 2) w.heap.size (w.heap.size + 1) n S → Calls Try.prog 10 #[.pointer (some ⟨w.heap.size + 2, 0, none⟩), .int .i64 s] W fun e w' => e = .returned (.tuple #[]) ∧ IsTags w' (w.heap.size + 2) w.heap.size (w.heap.size + 1) n (dropS S s) ∧ Kp (w.heap.size + 2) w.heap.size (w.heap.size + 1) W w') := fun S g n s hs W h => drop_any _ _ _ n S s hs g.ok W h
  have TT : Hid (∀ (S : Tg) (n : Nat) (s : Int), (Lit.int .i64 s).wf = true → ∀ W : World, IsTags W (w.heap.size + 2) w.heap.size (w.heap.size + 1) n S → Calls Try.prog 14 #[.pointer (some ⟨w.heap.size + 2, 0, none⟩), .int .i64 s] W fun e w' => e = .returned (.tuple #[.int .i64 ((S.T s).getD 0), .bool (S.T s).isSome]) ∧ w' = W) := fun S n s hs W h => tag_any _ _ _ n S s hs W h
  have OT : Hid (∀ (S : Tg) (n : Nat) (s : Int), (Lit.int .i64 s).wf = true → ∀ W : World, IsTags W (w.heap.size + 2) w.heap.size (w.heap.size + 1) n S → Calls Try.prog 16 #[.pointer (some ⟨w.heap.size + 2, 0, none⟩), .int .i64 s] W fun e w' => e = .returned (.tuple #[.int .i64 ((S.O s).getD 0), .bool (S.O s).isSome]) ∧ w' = W) := fun S n s hs W h => owner_any _ _ _ n S s hs W h
  have ET : Hid (∀ (S : Tg) (n : Nat), ∀ W : World, IsTags W (w.heap.size + 2) w.heap.size (w.heap.size + 1) n S → Calls Try.prog 17 #[.pointer (some ⟨w.heap.size + 2, 0, none⟩)] W fun e w' => e = .returned (.int .i64 S.gen) ∧ w' = W) := fun S n W h => gen_any _ _ _ n S W h
  obtain ⟨n, rfl⟩ : ∃ n : Nat, a1 = n := ⟨a1.toNat, by omega⟩
  have n9 : n ≤ 9000 := by omega
  have ML : Hid (9001 < maxLen) := by show 9001 < maxLen; decide +kernel
  have GF : Hid (Inv (freshS a0) a0 0) := inv_fresh a0 (by omega) (by omega)
  have m0 : 1 ≤ a0 := by omega
  have m1 : a0 ≤ 4095 := by omega
  have m2 : (a0 == 0) = false := by simp; omega
  have m3 : (a0 == -1) = false := by simp; omega
  have m4 : a0 ≠ 0 := by omega
  clear q0
  go_enter Try.func5, Try.ntmps5
  go_wp2_with fail
  refine NW.out.mono ?_
  rintro e u0 ⟨rfl, h0⟩
  have M0 : Hid (Own w u0 (w.heap.size + 2) w.heap.size (w.heap.size + 1) 0 (freshS a0)) := h0
  clear h0 NW
  go_wp2_with fail
  go_loopw [7] (fun x W => ∃ (k : Nat) (S : Tg), k ≤ n ∧ x = .int .i64 k ∧ Hid (Inv S a0 k) ∧ Hid (Own w W (w.heap.size + 2) w.heap.size (w.heap.size + 1) k S)) (fun x _ => n - (intOf x).toNat)
  case atStart => exact ⟨0, freshS a0, by omega, rfl, GF, M0⟩
  case round =>
    obtain ⟨k, S, hk, rfl, hI, hM⟩ := hrel
    by_cases hlt : k < n
    · have hd : decide ((k : Int) < (n : Int)) = true := by simp; omega
      have k9 : (k : Int) ≤ 9000 := by omega
      have k0 : (0 : Int) ≤ (k : Int) := by omega
      have gb : S.gen < 4611686018427387904 := by
        by_cases z : (k : Int) = 0
        · rw [(hI.out.zero z).2]; decide
        · rw [(hI.out.more (by omega)).2]
          have := Int.ediv_le_self a0 (show 0 ≤ (k : Int) - 1 by omega)
          omega
      have g1 : Hid _ := GT.out S hI.out.good gb k (by have := ML.out; omega) ((k : Int) + 1) (wf64 (by omega) (by omega))
      obtain ⟨e1, e2, e3, e4⟩ := inv_next m0 k0 hI.out
      have t1 : (k : Int).tmod a0 = (k : Int) % a0 := Int.tmod_eq_emod_of_nonneg k0
      have t2 : (k : Int).tdiv a0 = (k : Int) / a0 := Int.tdiv_eq_ediv_of_nonneg k0
      have r0 := Int.emod_nonneg (k : Int) m4
      have r1 := Int.emod_lt_of_pos (k : Int) (by omega : 0 < a0)
      have d0 := Int.ediv_nonneg k0 (by omega : 0 ≤ a0)
      have d1 := Int.ediv_le_self a0 k0
      have I2 : Hid (Inv (getS S ((k : Int) + 1)) a0 ((k + 1 : Nat) : Int)) := e4
      have v1 : Hid _ := ET.out (getS S ((k : Int) + 1)) (k + 1)
      rw [e3] at v1
      rw [e1, e2] at g1
      clear e1 e2 e3 e4 gb hI GT DT TT OT ET
      generalize getS S ((k : Int) + 1) = S2 at g1 v1 I2
      generalize (k : Int) % a0 = r at t1 r0 r1 g1
      generalize (k : Int) / a0 = q at t2 d0 d1 v1
      have ww : IntKind.i64.wrap (r + 1) = r + 1 := by rw [IntKind.wrap_i64]; omega
      have w1' : IntKind.i64.wrap 1 = 1 := by rw [IntKind.wrap_i64]; omega
      have wq : IntKind.i64.wrap q = q := by rw [IntKind.wrap_i64]; omega
      by_cases z0 : 0 < (k : Int)
      · have z1 : decide (0 < (k : Int)) = true := by simp; omega
        have z2 : decide (0 < k) = true := by simp; omega
        have z3 : 0 < k := by omega
        rw [z1] at g1
        by_cases rz : r = 0
        · subst rz
          have rb : ((0 : Int) == 0) = true := rfl
          rw [rb] at g1
          simp only [Bool.and_self] at g1
          go_wp2_with fail
          refine (g1.out _ hM.out.1).mono ?_
          rintro e u1 ⟨rfl, h1, h2⟩
          have M1 : Hid (Own w u1 (w.heap.size + 2) w.heap.size (w.heap.size + 1) (k + 1) S2) := hM.out.next h1 h2
          clear h1 h2 hM
          go_wp2_with fail
          go_quiet ((go_at_call 17; refine Calls.quiet_of_same (v1.out _ (M1.out.1.kept (fun _ _ _ => rfl)))))
          go_wp2_with fail
          go_roundw
          case rel => exact ⟨k + 1, S2, by omega, by go_num, I2, ⟨M1.out.1.kept (fun _ _ _ => rfl), ⟨M1.out.2.1.os, M1.out.2.1.tape, M1.out.2.1.output, M1.out.2.1.size, M1.out.2.1.block⟩, M1.out.2.2⟩⟩
          case measure => simp [intOf]; omega
        · have rb : (r == 0) = false := by simp [rz]
          rw [rb] at g1
          simp only [Bool.and_false] at g1
          go_wp2_with fail
          refine (g1.out _ hM.out.1).mono ?_
          rintro e u1 ⟨rfl, h1, h2⟩
          have M1 : Hid (Own w u1 (w.heap.size + 2) w.heap.size (w.heap.size + 1) (k + 1) S2) := hM.out.next h1 h2
          clear h1 h2 hM
          go_wp2_with fail
          go_quiet ((go_at_call 17; refine Calls.quiet_of_same (v1.out _ (M1.out.1.kept (fun _ _ _ => rfl)))))
          go_wp2_with fail
          go_roundw
          case rel => exact ⟨k + 1, S2, by omega, by go_num, I2, ⟨M1.out.1.kept (fun _ _ _ => rfl), ⟨M1.out.2.1.os, M1.out.2.1.tape, M1.out.2.1.output, M1.out.2.1.size, M1.out.2.1.block⟩, M1.out.2.2⟩⟩
          case measure => simp [intOf]; omega
      · have z1 : decide (0 < (k : Int)) = false := by simp; omega
        have z2 : decide (0 < k) = false := by simp; omega
        rw [z1] at g1
        simp only [Bool.false_and] at g1
        go_wp2_with fail
        refine (g1.out _ hM.out.1).mono ?_
        rintro e u1 ⟨rfl, h1, h2⟩
        have M1 : Hid (Own w u1 (w.heap.size + 2) w.heap.size (w.heap.size + 1) (k + 1) S2) := hM.out.next h1 h2
        clear h1 h2 hM
        go_wp2_with fail
        go_quiet ((go_at_call 17; refine Calls.quiet_of_same (v1.out _ (M1.out.1.kept (fun _ _ _ => rfl)))))
        go_wp2_with fail
        go_roundw
        case rel => exact ⟨k + 1, S2, by omega, by go_num, I2, ⟨M1.out.1.kept (fun _ _ _ => rfl), ⟨M1.out.2.1.os, M1.out.2.1.tape, M1.out.2.1.output, M1.out.2.1.size, M1.out.2.1.block⟩, M1.out.2.2⟩⟩
        case measure => simp [intOf]; omega
    · obtain rfl : k = n := by omega
      have hd : decide ((k : Int) < (k : Int)) = false := by simp
      clear GT DT TT OT ET
      go_wp2_with fail
      refine (AWH.out _).mono ?_
      rintro e u9 ⟨rfl, hb⟩
      have B9 : Hid (Below w.heap.size w u9) := (below_then hM.out.2.1 hb)
      clear hb
      go_wp2_with fail
      go_ret
      exact ⟨rfl, B9.out⟩

theorem own : ownKnob Try.prog.godebug = none := by kernel_rfl
theorem laidOut : laidOutB Try.prog = true := by kernel_rfl
set_option maxRecDepth 100000 in
theorem lifted (os : Os) (started : os.Started) (H : Type) (enc : TypeId × Value → H) :
    ReturnsInHanded {} Try.checked os 5 .any (Rows.pcidRoundSpec.pre6 enc Try.prog Try.f5 Rows.pcidRoundRow.domain false) (Rows.pcidRoundSpec.post enc Try.prog Try.f5 false true false false) := by
  refine returnsInHanded_of_change (C := Try.checked) own started (by kernel_rfl) Try.func5
    (ChangeSpec.witness6 (enc := enc) (C := Try.checked) false ⟨#[], #[.int .i64 0, .int .i64 0], []⟩ 8 (by kernel_rfl) (by kernel_rfl) (by kernel_rfl) (by kernel_rfl)) ?_
  intro W base args ds gs before hval0 hW hcnd _
  have hval : ∀ (j : Nat) t v, Try.f5.params[j]? = some t → args[j]? = some v → Value.okWide Try.prog W .any base t v := hval0
  have hW' := hW
  obtain ⟨p, q, hA0, hV, hbef, hfz, hnd⟩ := hW
  have hA : DataW.TrodAll enc Try.prog W 0 (fun _ => true) true Try.f5.params.toList args.toList ds p := hA0
  have hAk := hA
  have hlt : ∀ x ∈ p, x.block < W.heap.size := fun x hx => hW'.lt x (by rw [hbef]; exact List.mem_append_left _ hx)
  rw [Try.params5] at hA hval
  obtain ⟨v0, vs0, d0, ds0, p0, q0, hargs, rfl, hp0, h0, r0⟩ := trodAll_cons hA
  obtain ⟨v1, vs1, d1, ds1, p1, q1, rfl, rfl, hp1, h1, r1⟩ := trodAll_cons r0
  obtain ⟨rfl, rfl, hpz⟩ := trodAll_nil r1
  obtain rfl : args = #[v0, v1] := by cases args; simp_all
  obtain ⟨rfl, rfl⟩ := trodVars_none hV
  obtain ⟨a0, rfl, _, _, w0⟩ := open_int Try.underlying3 (hval 0 3 v0 rfl rfl) h0
  obtain ⟨a1, rfl, _, _, w1⟩ := open_int Try.underlying3 (hval 1 3 v1 rfl rfl) h1
  clear hA0 hval0
  refine (walk a0 w0 a1 w1 W ).mono fun e W' ⟨he, hg⟩ => ?_
  subst he
  exact ⟨_, rfl, ⟨_, _, _, [], p, [], hW', (trodAll_cons_mk (shut_bool Try.underlying4 _) trodAll_mk0), args_stay laidOut hg (by kernel_rfl) hAk hlt, rfl, hg.frame _, fun h => by cases h⟩⟩

theorem over : Rows.pcidRoundRow.holds Try.pinned (OpenSpec.ofChange Rows.pcidRoundSpec) :=
  OpenClaim.holds_of_wide 5 Try.f5 rfl rfl rfl rfl rfl rfl rfl ⟨rfl, rfl, rfl, rfl, rfl⟩ rfl rfl rfl rfl rfl (by kernel_rfl) Try.func5 (by kernel_rfl)
    (of_decide_eq_true (by kernel_rfl)) (by unfold Func.isWrapper; first | (rw [if_pos (by decide +kernel)]; kernel_rfl) | (rw [if_neg (by decide +kernel)]; exact ⟨rfl, rfl⟩))
    (fun os started H enc _ => lifted os started H enc)

theorem proved : Rows.PcidRoundSaid :=
  over
#print axioms proved
end Go.Proofs.Ytbdakoijhpobdaa.pcidRound
