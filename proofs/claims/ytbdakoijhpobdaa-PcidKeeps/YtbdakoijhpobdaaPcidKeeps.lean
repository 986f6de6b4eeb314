/- For any number of tags and any spaces: as long as there are no more spaces than tags each keeps its tag, unlike all others, and no generation begins; of any 60 calls; no condition. -/
import Derived.Test.YtbdakoijhpobdaaRows
import Derived.ProofKit
import Derived.OpenShut
import Derived.Carry
import Derived.Test.YtbdakoijhpobdaaK4
namespace Go.Proofs.Ytbdakoijhpobdaa.pcidKeeps
open Go.ChangeShapes Go.WideShapes Go.ChangeAt Go.RowKit Go.Maps
set_option linter.unusedSimpArgs false
set_option linter.unusedVariables false
theorem set_id {f : Int → Option Int} {k v : Int} (h : f k = some v) : setF f k (some v) = f := by
  funext j
  by_cases d : j = k
  · subst d; rw [set_same, h]
  · rw [set_other _ _ _ _ d]

set_option maxRecDepth 8000 in
set_option maxHeartbeats 4000000 in
theorem walk (a0 : Int) (w0 : (Lit.int .i64 a0).wf = true) (p1 : Option Addr) (n1 c1 : Nat) (A1 : Nat → Int) (m1 : n1 ≤ maxLen) (w : World) (H1 : IsInts w p1 n1 A1) :
    Calls Try.prog 6 #[.int .i64 a0, .slice p1 n1 c1] w fun e w' => e = .returned (.bool true) ∧ Below w.heap.size w w' := by
  have AWH : Hid (∀ W : World, Calls Try.prog 9 #[] W fun e w' => e = .returned (.bool true) ∧ Below W.heap.size W w') := fun W => awake_any W
  by_cases q0 : a0 < 1 ∨ 4095 < a0
  · have NW : Hid (∀ W : World, Calls Try.prog 8 #[.int .i64 a0] W fun e w' => e = .returned (.tuple #[.pointer none, .int .i64 1]) ∧ w' = W) := fun W => new_no a0 q0 W
    go_enter Try.func6, Try.ntmps6
    go_wp2_with fail
    refine (NW.out _).mono ?_
    rintro e u ⟨rfl, hu⟩
    have hu2 := hu.symm
    subst hu2
    clear hu
    go_wp2_with fail
    refine (AWH.out _).mono ?_
    rintro e u9 ⟨rfl, hb⟩
    have B9 : Hid (Below w.heap.size w u9) := hb
    clear hb
    go_wp2_with fail
    go_ret
    exact ⟨rfl, B9.out⟩
  have NW : Hid (Calls Try.prog 8 #[.int .i64 a0] w fun e w' => e = .returned (.tuple #[.pointer (some ⟨w.heap.size + 2, 0, none⟩), .int .i64 0]) ∧ Own w w' (w.heap.size + 2) w.heap.size (w.heap.size + 1) 0 (freshS a0)) := new_ok a0 (by omega) (by omega) w
  have GT : Hid (∀ (S : Tg), Good S → S.gen < 4611686018427387904 → ∀ (n : Nat), n < maxLen → ∀ s : Int, (Lit.int .i64 s).wf = true → ∀ W : World, IsTags W (w.heap.size + 2) w.heap.size (w.heap.size + 1) n S → Calls Try.prog 12 #[.pointer (some ⟨w.heap.size + 2, 0, none⟩), .int .i64 s] W fun e w' => e = .returned (.tuple #[.int .i64 (getV S s), .bool (getB S s)]) ∧ IsTags w' (w.heap.size + 2) w.heap.size (w.heap.size + 1) (n + 1) (getS S s) ∧ Kp (w.heap.size + 2) w.heap.size (w.heap.size + 1) W w') := fun S g hg n hn s hs W h => get_any _ _ _ n S s hs g.ok hg hn W h
  have DT : Hid (∀ (S : Tg), Good S → ∀ (n : Nat) (s : Int), (Lit.int .i64 s).wf = true → ∀ W : World, IsTags W (w.heap.size + 2) w.heap.size (w.heap.size + 1) n S → Calls Try.prog 10 #[.pointer (some ⟨w.heap.size + 2, 0, none⟩), .int .i64 s] W fun e w' => e = .returned (.tuple #[]) ∧ IsTags w' (w.heap.size + 2) w.heap.size (w.heap.size + 1) n (dropS S s) ∧ Kp (w.heap.size + 2) w.heap.size (w.heap.size + 1) W w') := fun S g n s hs W h => drop_any _ _ _ n S s hs g.ok W h
  have TT : Hid (∀ (S : Tg) (n : Nat) (s : Int), (Lit.int .i64 s).wf = true → ∀ W : World, IsTags W (w.heap.size + 2) w.heap.size (w.heap.size + 1) n S → Calls Try.prog 14 #[.pointer (some ⟨w.heap.size + 2, 0, none⟩), .int .i64 s] W fun e w' => e = .returned (.tuple #[.int .i64 ((S.T s).getD 0), .bool (S.T s).isSome]) ∧ w' = W) := fun S n s hs W h => tag_any _ _ _ n S s hs W h
  have OT : Hid (∀ (S : Tg) (n : Nat) (s : Int), (Lit.int .i64 s).wf = true → ∀ W : World, IsTags W (w.heap.size + 2) w.heap.size (w.heap.size + 1) n S → Calls Try.prog 16 #[.pointer (some ⟨w.heap.size + 2, 0, none⟩), .int .i64 s] W fun e w' => e = .returned (.tuple #[.int .i64 ((S.O s).getD 0), .bool (S.O s).isSome]) ∧ w' = W) := fun S n s hs W h => owner_any _ _ _ n S s hs W h
  have ET : Hid (∀ (S : Tg) (n : Nat), ∀ W : World, IsTags W (w.heap.size + 2) w.heap.size (w.heap.size + 1) n S → Calls Try.prog 17 #[.pointer (some ⟨w.heap.size + 2, 0, none⟩)] W fun e w' => e = .returned (.int .i64 S.gen) ∧ w' = W) := fun S n W h => gen_any _ _ _ n S W h
  have mm : (n1 : Int) ≤ 9223372036854775807 := by have : maxLen ≤ 9223372036854775807 := by decide +kernel
                                                   omega
  have HA : Hid (IsInts w p1 n1 A1) := H1
  have ML : Hid (241 < maxLen) := by show 241 < maxLen; decide +kernel
  have GF : Hid (Good (freshS a0)) := fresh_good a0 (by omega) (by omega)
  have hmm := @run_makeMap Try.prog
  clear H1
  go_enter Try.func6, Try.ntmps6
  go_wp2_with fail
  refine NW.out.mono ?_
  rintro e u0 ⟨rfl, h0⟩
  have M0 : Hid (Own w u0 (w.heap.size + 2) w.heap.size (w.heap.size + 1) 0 (freshS a0)) := h0
  clear h0 NW
  go_wp2_with fail
  have N0 : Hid (Own w (u0.alloc (.map #[] 0)) (w.heap.size + 2) w.heap.size (w.heap.size + 1) 0 (freshS a0)) := M0.out.grow (Go.Joins.below_alloc1 _ _)
  have X0 : Hid (BesC w (u0.alloc (.map #[] 0)) u0.heap.size 0 0 noneF) := ⟨MapC.made u0, (by have := blk_lt M0.out.1.blk; omega)⟩
  have obo : Hid (w.heap.size + 3 ≤ u0.heap.size) := X0.out.lo
  clear M0
  generalize u0.heap.size = bo at X0 obo ⊢
  go_loopw [8] (fun x W => ∃ (k : Nat) (S : Tg) (c : Nat), k ≤ n1 ∧ k ≤ 60 ∧ x = .int .i64 k ∧ Hid (Good S) ∧ Hid (S.gen = 0) ∧ Hid (S.most = a0) ∧ Hid ((c : Int) = S.next - 1) ∧ Hid (Own w W (w.heap.size + 2) w.heap.size (w.heap.size + 1) k S) ∧ Hid (BesC w W bo k c S.T)) (fun x _ => 60 - (intOf x).toNat)
  case atStart => exact ⟨0, freshS a0, 0, by omega, by omega, rfl, GF, rfl, rfl, rfl, N0, X0⟩
  case round =>
    obtain ⟨k, S, c, hk, hk6, rfl, hG, hE, hS, hN, hM, hB⟩ := hrel
    by_cases hlt : k < n1 ∧ k < 60
    · have hd : decide ((k : Int) < (n1 : Int)) = true := by simp; omega
      have hd2 : decide ((k : Int) < 60) = true := by simp; omega
      obtain ⟨b, o, rfl, lb, c1, wf⟩ := HA.out k hlt.1
      generalize A1 k = s at c1 wf
      have y1 : wr.cell? ⟨b, o + k, none⟩ = some (.int .i64 s) := (hM.out.2.1.cell (p := ⟨b, _, none⟩) lb).trans c1
      have lbw : b < wr.heap.size := Nat.lt_of_lt_of_le lb hM.out.2.1.size
      have LB : Hid (b < w.heap.size) := lb
      have C1 : Hid (w.cell? ⟨b, o + k, none⟩ = some (.int .i64 s)) := c1
      clear c1 lb HA
      have hl := hB.out.map.look wf
      have hln : ∀ ty, (Builtin.len_ #[44] ty #[.map (some bo)]).run Try.prog wr = .ok (.int .i64 c) wr := fun ty => hB.out.map.len ty
      have cb : c ≤ k := hB.out.map.count
      have g1 : Hid _ := GT.out S hG.out (by rw [hE.out]; decide) k (by have := ML.out; omega) s wf
      have G2 : Hid (Good (getS S s)) := hG.out.get s
      obtain ⟨p1, p2, p3, p4, _⟩ := get_facts hG.out s
      have wv : (Lit.int .i64 (getV S s)).wf = true := wf64 (by omega) (by have := hG.out.ok.m1; omega)
      have o1 : Hid _ := OT.out (getS S s) (k + 1) (getV S s) wv
      rw [p2] at o1
      have o2 : Hid (∀ W : World, IsTags W (w.heap.size + 2) w.heap.size (w.heap.size + 1) (k + 1) (getS S s) → Calls Try.prog 16 #[.pointer (some ⟨w.heap.size + 2, 0, none⟩), .int .i64 (getV S s)] W fun e w' => e = .returned (.tuple #[.int .i64 s, .bool true]) ∧ w' = W) := o1
      have S2 : Hid ((getS S s).most = a0) := (hG.out.ok.get s).2.2.trans hS.out
      have gc := get_cases S s
      rw [hS.out] at gc
      clear o1 p1 p2 GT DT TT OT ET
      cases q : S.T s with
      | some t =>
        rw [q] at hl gc
        have hl' : (Instr.lookup 44 (.map (some bo)) (.int .i64 s) true).run Try.prog wr = .ok (.tuple #[.int .i64 t, .bool true]) wr := hl
        rcases gc with ⟨t', q', e1, e2, e3⟩ | ⟨q', _⟩ | ⟨q', _⟩
        rotate_left
        · cases q'
        · cases q'
        cases q'
        rw [e1] at g1 o2 wv
        rw [e2] at g1
        rw [e3] at g1 o2 G2 S2
        clear e1 e2 e3 p3 p4 hl
        have HQ : Hid (S.T s = some t) := q
        clear q
        go_wp2_with fail
        refine (g1.out _ hM.out.1).mono ?_
        rintro e u1 ⟨rfl, h1, h2⟩
        have M1 : Hid (Own w u1 (w.heap.size + 2) w.heap.size (w.heap.size + 1) (k + 1) S) := hM.out.next h1 h2
        have X1 : Hid (BesC w u1 bo k c S.T) := hB.out.kp h2
        clear h1 h2 hM hB hln hl' y1
        have y2 : u1.cell? ⟨b, o + k, none⟩ = some (.int .i64 s) := (M1.out.2.1.cell (p := ⟨b, _, none⟩) LB.out).trans C1.out
        have l2 : b < u1.heap.size := Nat.lt_of_lt_of_le LB.out M1.out.2.1.size
        have hln2 : ∀ ty, (Builtin.len_ #[44] ty #[.map (some bo)]).run Try.prog u1 = .ok (.int .i64 c) u1 := fun ty => X1.out.map.len ty
        obtain ⟨u2, r2, x2, k2⟩ := X1.out.set (by have := ML.out; omega) wf wv
        rw [HQ.out] at x2
        have M2 : Hid (Own w u2 (w.heap.size + 2) w.heap.size (w.heap.size + 1) (k + 1) S) := own_grown M1.out k2 X1.out.lo
        have X2 : Hid (BesC w u2 bo (k + 1) c S.T) := by
          show BesC w u2 bo (k + 1) c S.T
          rw [set_id HQ.out] at x2; exact x2
        have y3 : u2.cell? ⟨b, o + k, none⟩ = some (.int .i64 s) := (M2.out.2.1.cell (p := ⟨b, _, none⟩) LB.out).trans C1.out
        have l3 : b < u2.heap.size := Nat.lt_of_lt_of_le LB.out M2.out.2.1.size
        clear x2 k2
        go_wp2_with fail
        refine (o2.out _ M2.out.1).mono ?_
        rintro e u3 ⟨rfl, hu⟩
        subst hu
        go_wp2_with fail
        go_roundw
        case rel => exact ⟨k + 1, S, c, by omega, by omega, by go_num, G2, hE, S2, hN, M2, X2⟩
        case measure => simp [intOf]; omega
      | none =>
        rw [q] at hl gc
        have hl' : (Instr.lookup 44 (.map (some bo)) (.int .i64 s) true).run Try.prog wr = .ok (.tuple #[.int .i64 0, .bool false]) wr := hl
        by_cases cm : a0 ≤ (c : Int)
        · have cd : decide (a0 ≤ (c : Int)) = true := by simp [cm]
          clear gc p3 p4 g1 o2 G2 S2
          go_wp2_with fail
          refine (AWH.out _).mono ?_
          rintro e u9 ⟨rfl, hb⟩
          have B9 : Hid (Below w.heap.size w u9) := (below_then hM.out.2.1 hb)
          clear hb
          go_wp2_with fail
          go_ret
          exact ⟨rfl, B9.out⟩
        · have cd : decide (a0 ≤ (c : Int)) = false := by simp; omega
          rcases gc with ⟨t', q', _⟩ | ⟨q', cc, _⟩ | ⟨q', cc, e1, e2, e3⟩
          · cases q'
          · have := hN.out; omega
          have HQ : Hid (S.T s = none) := q
          have HC : Hid (S.next = (c : Int) + 1) := by show _ = _; have := hN.out; omega
          rw [e2] at g1
          rw [e1] at g1 o2 wv
          rw [HC.out] at g1 o2 wv e3
          have EQ : Hid (getS S s = ⟨a0, (c : Int) + 1 + 1, S.gen, setF S.T s (some ((c : Int) + 1)), setF S.O ((c : Int) + 1) (some s)⟩) := e3
          clear e1 e2 e3 p3 p4 q hl
          generalize getS S s = T2 at g1 o2 G2 S2 EQ
          go_wp2_with fail
          refine (g1.out _ hM.out.1).mono ?_
          rintro e u1 ⟨rfl, h1, h2⟩
          have M1 : Hid (Own w u1 (w.heap.size + 2) w.heap.size (w.heap.size + 1) (k + 1) T2) := hM.out.next h1 h2
          have X1 : Hid (BesC w u1 bo k c S.T) := hB.out.kp h2
          clear h1 h2 hM hB hln hl' y1
          have y2 : u1.cell? ⟨b, o + k, none⟩ = some (.int .i64 s) := (M1.out.2.1.cell (p := ⟨b, _, none⟩) LB.out).trans C1.out
          have l2 : b < u1.heap.size := Nat.lt_of_lt_of_le LB.out M1.out.2.1.size
          have hln2 : ∀ ty, (Builtin.len_ #[44] ty #[.map (some bo)]).run Try.prog u1 = .ok (.int .i64 c) u1 := fun ty => X1.out.map.len ty
          obtain ⟨u2, r2, x2, k2⟩ := X1.out.set (by have := ML.out; omega) wf wv
          rw [HQ.out] at x2
          have M2 : Hid (Own w u2 (w.heap.size + 2) w.heap.size (w.heap.size + 1) (k + 1) T2) := own_grown M1.out k2 X1.out.lo
          have X2 : Hid (BesC w u2 bo (k + 1) (c + 1) T2.T) := by
            show BesC w u2 bo (k + 1) (c + 1) T2.T
            rw [EQ.out]; exact x2
          have y3 : u2.cell? ⟨b, o + k, none⟩ = some (.int .i64 s) := (M2.out.2.1.cell (p := ⟨b, _, none⟩) LB.out).trans C1.out
          have l3 : b < u2.heap.size := Nat.lt_of_lt_of_le LB.out M2.out.2.1.size
          clear x2 k2
          go_wp2_with fail
          refine (o2.out _ M2.out.1).mono ?_
          rintro e u3 ⟨rfl, hu⟩
          subst hu
          go_wp2_with fail
          go_roundw
          case rel => exact ⟨k + 1, T2, (c + 1), by omega, by omega, by go_num, G2, (by show _ = _; rw [EQ.out]; exact hE.out), S2, (by show _ = _; rw [EQ.out]; show (((c + 1 : Nat)) : Int) = (c : Int) + 1 + 1 - 1; omega), M2, X2⟩
          case measure => simp [intOf]; omega
    · clear GT DT TT OT HA
      have e1 : Hid _ := ET.out S k
      rw [hE.out] at e1
      by_cases hq : k < n1
      · have hd : decide ((k : Int) < (n1 : Int)) = true := by simp; omega
        have hd2 : decide ((k : Int) < 60) = false := by simp; omega
        clear hlt
        go_wp2_with fail
        refine (AWH.out _).mono ?_
        rintro e u9 ⟨rfl, hb⟩
        have M9 : Hid (Own w u9 (w.heap.size + 2) w.heap.size (w.heap.size + 1) k S) := hM.out.grow hb
        clear hb
        go_wp2_with fail
        refine (e1.out _ M9.out.1).mono ?_
        rintro e u8 ⟨rfl, hu⟩
        subst hu
        go_wp2_with fail
        go_ret
        exact ⟨rfl, M9.out.2.1⟩
      · have hd : decide ((k : Int) < (n1 : Int)) = false := by simp; omega
        clear hlt
        go_wp2_with fail
        refine (AWH.out _).mono ?_
        rintro e u9 ⟨rfl, hb⟩
        have M9 : Hid (Own w u9 (w.heap.size + 2) w.heap.size (w.heap.size + 1) k S) := hM.out.grow hb
        clear hb
        go_wp2_with fail
        refine (e1.out _ M9.out.1).mono ?_
        rintro e u8 ⟨rfl, hu⟩
        subst hu
        go_wp2_with fail
        go_ret
        exact ⟨rfl, M9.out.2.1⟩

theorem own : ownKnob Try.prog.godebug = none := by kernel_rfl
theorem laidOut : laidOutB Try.prog = true := by kernel_rfl
set_option maxRecDepth 100000 in
theorem lifted (os : Os) (started : os.Started) (H : Type) (enc : TypeId × Value → H) :
    ReturnsInHanded {} Try.checked os 6 .any (Rows.pcidKeepsSpec.pre6 enc Try.prog Try.f6 Rows.pcidKeepsRow.domain false) (Rows.pcidKeepsSpec.post enc Try.prog Try.f6 false true false false) := by
  refine returnsInHanded_of_change (C := Try.checked) own started (by kernel_rfl) Try.func6
    (ChangeSpec.witness6 (enc := enc) (C := Try.checked) false ⟨#[], #[.int .i64 0, .slice none 0 0], []⟩ 8 (by kernel_rfl) (by kernel_rfl) (by kernel_rfl) (by kernel_rfl)) ?_
  intro W base args ds gs before hval0 hW hcnd _
  have hval : ∀ (j : Nat) t v, Try.f6.params[j]? = some t → args[j]? = some v → Value.okWide Try.prog W .any base t v := hval0
  have hW' := hW
  obtain ⟨p, q, hA0, hV, hbef, hfz, hnd⟩ := hW
  have hA : DataW.TrodAll enc Try.prog W 0 (fun _ => true) true Try.f6.params.toList args.toList ds p := hA0
  have hAk := hA
  have hlt : ∀ x ∈ p, x.block < W.heap.size := fun x hx => hW'.lt x (by rw [hbef]; exact List.mem_append_left _ hx)
  rw [Try.params6] at hA hval
  obtain ⟨v0, vs0, d0, ds0, p0, q0, hargs, rfl, hp0, h0, r0⟩ := trodAll_cons hA
  obtain ⟨v1, vs1, d1, ds1, p1, q1, rfl, rfl, hp1, h1, r1⟩ := trodAll_cons r0
  obtain ⟨rfl, rfl, hpz⟩ := trodAll_nil r1
  obtain rfl : args = #[v0, v1] := by cases args; simp_all
  obtain ⟨rfl, rfl⟩ := trodVars_none hV
  obtain ⟨a0, rfl, _, _, w0⟩ := open_int Try.underlying3 (hval 0 3 v0 rfl rfl) h0
  obtain ⟨p1, n1, c1, A1, rfl, m1, H1⟩ := open_ints (hval 1 47 v1 rfl rfl) h1
  clear hA0 hval0
  refine (walk a0 w0 p1 n1 c1 A1 m1 W H1).mono fun e W' ⟨he, hg⟩ => ?_
  subst he
  exact ⟨_, rfl, ⟨_, _, _, [], p, [], hW', (trodAll_cons_mk (shut_bool Try.underlying4 _) trodAll_mk0), args_stay laidOut hg (by kernel_rfl) hAk hlt, rfl, hg.frame _, fun h => by cases h⟩⟩

theorem over : Rows.pcidKeepsRow.holds Try.pinned (OpenSpec.ofChange Rows.pcidKeepsSpec) :=
  OpenClaim.holds_of_wide 6 Try.f6 rfl rfl rfl rfl rfl rfl rfl ⟨rfl, rfl, rfl, rfl, rfl⟩ rfl rfl rfl rfl rfl (by kernel_rfl) Try.func6 (by kernel_rfl)
    (of_decide_eq_true (by kernel_rfl)) (by unfold Func.isWrapper; first | (rw [if_pos (by decide +kernel)]; kernel_rfl) | (rw [if_neg (by decide +kernel)]; exact ⟨rfl, rfl⟩))
    (fun os started H enc _ => lifted os started H enc)

theorem proved : Rows.PcidKeepsSaid :=
  over
#print axioms proved
end Go.Proofs.Ytbdakoijhpobdaa.pcidKeeps
