/- For any number of tags, any calls and any two spaces: behind any 60 calls a space that dropped its tag has none, and gets another one that nobody has; what the other one has stays, unless a generation begins; no condition. -/
import Derived.Test.YtbdakoijhpobdaaRows
import Derived.ProofKit
import Derived.OpenShut
import Derived.Carry
import Derived.Test.YtbdakoijhpobdaaK3
namespace Go.Proofs.Ytbdakoijhpobdaa.pcidDrops
open Go.ChangeShapes Go.WideShapes Go.ChangeAt Go.RowKit Go.Maps
set_option linter.unusedSimpArgs false
set_option linter.unusedVariables false
theorem drop_self {S : Tg} (s : Int) : (dropS S s).T s = none := by
  unfold dropS
  cases e : S.T s with
  | none => exact e
  | some t => exact set_same _ _ _
theorem drop_other {S : Tg} {s o : Int} (h : o ≠ s) : (dropS S s).T o = S.T o := by
  unfold dropS
  cases e : S.T s with
  | none => rfl
  | some t => exact set_other _ _ _ _ h
theorem drop_next (S : Tg) (s : Int) : (dropS S s).next = S.next := by
  unfold dropS
  cases e : S.T s with
  | none => rfl
  | some t => rfl
theorem facts {S : Tg} (h : Good S) {s o : Int} (ho : o ≠ s) : (getB (dropS S s) s = true → (getS (dropS S s) s).T o = none) ∧ (getB (dropS S s) s = false → (getS (dropS S s) s).T o = S.T o ∧ (∀ t, S.T s = some t → getV (dropS S s) s ≠ t) ∧ ∀ t, S.T o = some t → getV (dropS S s) s ≠ t) := by
  rcases get_cases (dropS S s) s with ⟨t, q, _⟩ | ⟨q, c, e1, e2, e3⟩ | ⟨q, c, e1, e2, e3⟩
  · rw [drop_self] at q; cases q
  · refine ⟨fun _ => ?_, fun x => (by rw [e2] at x; cases x)⟩
    rw [e3]; exact set_other _ _ _ _ ho
  · refine ⟨fun x => (by rw [e2] at x; cases x), fun _ => ⟨?_, ?_, ?_⟩⟩
    · rw [e3]; exact (set_other _ _ _ _ ho).trans (drop_other ho)
    · intro t ht; rw [e1, drop_next]; have := (h.low s t ht).2; omega
    · intro t ht; rw [e1, drop_next]; have := (h.low o t ht).2; omega

set_option maxRecDepth 8000 in
set_option maxHeartbeats 4000000 in
theorem walk (a0 : Int) (w0 : (Lit.int .i64 a0).wf = true) (p1 : Option Addr) (n1 c1 : Nat) (A1 : Nat → Ac) (m1 : n1 ≤ maxLen) (a2 : Int) (w2 : (Lit.int .i64 a2).wf = true) (a3 : Int) (w3 : (Lit.int .i64 a3).wf = true) (w : World) (H1 : IsActs w p1 n1 A1) :
    Calls Try.prog 7 #[.int .i64 a0, .slice p1 n1 c1, .int .i64 a2, .int .i64 a3] w fun e w' => e = .returned (.bool true) ∧ Below w.heap.size w w' := by
  have AWH : Hid (∀ W : World, Calls Try.prog 9 #[] W fun e w' => e = .returned (.bool true) ∧ Below W.heap.size W w') := fun W => awake_any W
  by_cases q0 : a0 < 1 ∨ 4095 < a0
  · have NW : Hid (∀ W : World, Calls Try.prog 8 #[.int .i64 a0] W fun e w' => e = .returned (.tuple #[.pointer none, .int .i64 1]) ∧ w' = W) := fun W => new_no a0 q0 W
    go_enter Try.func7, Try.ntmps7
    go_wp2_with fail
    refine (NW.out _).mono ?_
    rintro e u ⟨rfl, hu⟩
    have hu2 := hu.symm
    subst hu2
    clear hu
    go_wp2_with fail
    refine (AWH.out _).mono ?_
    rintro e u9 ⟨rfl, hb⟩
    have B9 : Hid (Below w.heap.size w u9) := hb
    clear hb
    go_wp2_with fail
    go_ret
    exact ⟨rfl, B9.out⟩
  have NW : Hid (Calls Try.prog 8 #[.int .i64 a0] w fun e w' => e = .returned (.tuple #[.pointer (some ⟨w.heap.size + 2, 0, none⟩), .int .i64 0]) ∧ Own w w' (w.heap.size + 2) w.heap.size (w.heap.size + 1) 0 (freshS a0)) := new_ok a0 (by omega) (by omega) w
  by_cases q1 : a2 = a3
  · have q1b : (a2 == a3) = true := by simp [q1]
    clear q1
    go_enter Try.func7, Try.ntmps7
    go_wp2_with fail
    refine NW.out.mono ?_
    rintro e u0 ⟨rfl, h0⟩
    have M0 : Hid (Own w u0 (w.heap.size + 2) w.heap.size (w.heap.size + 1) 0 (freshS a0)) := h0
    clear h0 NW
    go_wp2_with fail
    refine (AWH.out _).mono ?_
    rintro e u9 ⟨rfl, hb⟩
    have B9 : Hid (Below w.heap.size w u9) := (below_then M0.out.2.1 hb)
    clear hb
    go_wp2_with fail
    go_ret
    exact ⟨rfl, B9.out⟩
  have q1b : (a2 == a3) = false := by simp [q1]
  have GT : Hid (∀ (S : Tg), Good S → S.gen < 4611686018427387904 → ∀ (n : Nat), n < maxLen → ∀ s : Int, (Lit.int .i64 s).wf = true → ∀ W : World, IsTags W (w.heap.size + 2) w.heap.size (w.heap.size + 1) n S → Calls Try.prog 12 #[.pointer (some ⟨w.heap.size + 2, 0, none⟩), .int .i64 s] W fun e w' => e = .returned (.tuple #[.int .i64 (getV S s), .bool (getB S s)]) ∧ IsTags w' (w.heap.size + 2) w.heap.size (w.heap.size + 1) (n + 1) (getS S s) ∧ Kp (w.heap.size + 2) w.heap.size (w.heap.size + 1) W w') := fun S g hg n hn s hs W h => get_any _ _ _ n S s hs g.ok hg hn W h
  have DT : Hid (∀ (S : Tg), Good S → ∀ (n : Nat) (s : Int), (Lit.int .i64 s).wf = true → ∀ W : World, IsTags W (w.heap.size + 2) w.heap.size (w.heap.size + 1) n S → Calls Try.prog 10 #[.pointer (some ⟨w.heap.size + 2, 0, none⟩), .int .i64 s] W fun e w' => e = .returned (.tuple #[]) ∧ IsTags w' (w.heap.size + 2) w.heap.size (w.heap.size + 1) n (dropS S s) ∧ Kp (w.heap.size + 2) w.heap.size (w.heap.size + 1) W w') := fun S g n s hs W h => drop_any _ _ _ n S s hs g.ok W h
  have TT : Hid (∀ (S : Tg) (n : Nat) (s : Int), (Lit.int .i64 s).wf = true → ∀ W : World, IsTags W (w.heap.size + 2) w.heap.size (w.heap.size + 1) n S → Calls Try.prog 14 #[.pointer (some ⟨w.heap.size + 2, 0, none⟩), .int .i64 s] W fun e w' => e = .returned (.tuple #[.int .i64 ((S.T s).getD 0), .bool (S.T s).isSome]) ∧ w' = W) := fun S n s hs W h => tag_any _ _ _ n S s hs W h
  have OT : Hid (∀ (S : Tg) (n : Nat) (s : Int), (Lit.int .i64 s).wf = true → ∀ W : World, IsTags W (w.heap.size + 2) w.heap.size (w.heap.size + 1) n S → Calls Try.prog 16 #[.pointer (some ⟨w.heap.size + 2, 0, none⟩), .int .i64 s] W fun e w' => e = .returned (.tuple #[.int .i64 ((S.O s).getD 0), .bool (S.O s).isSome]) ∧ w' = W) := fun S n s hs W h => owner_any _ _ _ n S s hs W h
  have ET : Hid (∀ (S : Tg) (n : Nat), ∀ W : World, IsTags W (w.heap.size + 2) w.heap.size (w.heap.size + 1) n S → Calls Try.prog 17 #[.pointer (some ⟨w.heap.size + 2, 0, none⟩)] W fun e w' => e = .returned (.int .i64 S.gen) ∧ w' = W) := fun S n W h => gen_any _ _ _ n S W h
  have mm : (n1 : Int) ≤ 9223372036854775807 := by have : maxLen ≤ 9223372036854775807 := by decide +kernel
                                                   omega
  have HA : Hid (IsActs w p1 n1 A1) := H1
  have ML : Hid (61 < maxLen) := by show 61 < maxLen; decide +kernel
  have GF : Hid (Good (freshS a0)) := fresh_good a0 (by omega) (by omega)
  have NE : Hid (a3 ≠ a2) := fun e => q1 e.symm
  clear H1 q1
  go_enter Try.func7, Try.ntmps7
  go_wp2_with fail
  refine NW.out.mono ?_
  rintro e u0 ⟨rfl, h0⟩
  have M0 : Hid (Own w u0 (w.heap.size + 2) w.heap.size (w.heap.size + 1) 0 (freshS a0)) := h0
  clear h0 NW
  go_wp2_with fail
  go_loopw [11] (fun x W => ∃ (k : Nat) (S : Tg), k ≤ n1 ∧ k ≤ 60 ∧ x = .int .i64 k ∧ Hid (Good S) ∧ Hid (S.gen ≤ k) ∧ Hid (Own w W (w.heap.size + 2) w.heap.size (w.heap.size + 1) k S)) (fun x _ => 60 - (intOf x).toNat)
  case atStart => exact ⟨0, freshS a0, by omega, by omega, rfl, GF, Int.le_refl _, M0⟩
  case round =>
    obtain ⟨k, S, hk, hk6, rfl, hG, hE, hM⟩ := hrel
    by_cases hlt : k < n1 ∧ k < 60
    · have hd : decide ((k : Int) < (n1 : Int)) = true := by simp; omega
      have hd2 : decide ((k : Int) < 60) = true := by simp; omega
      obtain ⟨b, o, rfl, lb, c0, c1, wf⟩ := HA.out k hlt.1
      generalize A1 k = a at c0 c1 wf
      obtain ⟨d, s⟩ := a
      simp only at c0 c1 wf
      have y0 : wr.cell? ⟨b, o + k * 2, none⟩ = some (.bool d) := (hM.out.2.1.cell (p := ⟨b, _, none⟩) lb).trans c0
      have y1 : wr.cell? ⟨b, o + k * 2 + 1, none⟩ = some (.int .i64 s) := (hM.out.2.1.cell (p := ⟨b, _, none⟩) lb).trans c1
      have lbw : b < wr.heap.size := Nat.lt_of_lt_of_le lb hM.out.2.1.size
      clear c0 c1
      cases d
      · have g1 : Hid _ := GT.out S hG.out (by have := hE.out; omega) k (by have := ML.out; omega) s wf
        have G2 : Hid (Good (getS S s)) := hG.out.get s
        have E2 : Hid ((getS S s).gen ≤ ((k + 1 : Nat) : Int)) := by show _ ≤ _; have := (hG.out.ok.get s).2.1; have := hE.out; omega
        generalize getV S s = v at g1
        generalize getB S s = bb at g1
        generalize getS S s = S2 at g1 G2 E2
        go_wp2_with fail
        refine (g1.out _ hM.out.1).mono ?_
        rintro e u1 ⟨rfl, h1, h2⟩
        have M1 : Hid (Own w u1 (w.heap.size + 2) w.heap.size (w.heap.size + 1) (k + 1) S2) := hM.out.next h1 h2
        clear h1 h2
        go_wp2_with fail
        go_roundw
        case rel => exact ⟨k + 1, S2, by omega, by omega, by go_num, G2, E2, M1⟩
        case measure => simp [intOf]; omega
      · have g1 : Hid _ := DT.out S hG.out k s wf
        have G2 : Hid (Good (dropS S s)) := hG.out.drop s
        have E2 : Hid ((dropS S s).gen ≤ ((k + 1 : Nat) : Int)) := by show _ ≤ _; have := (hG.out.ok.drop s).2.1; have := hE.out; omega
        generalize dropS S s = S2 at g1 G2 E2
        go_wp2_with fail
        refine (g1.out _ hM.out.1).mono ?_
        rintro e u1 ⟨rfl, h1, h2⟩
        have M1 : Hid (Own w u1 (w.heap.size + 2) w.heap.size (w.heap.size + 1) (k + 1) S2) := hM.out.next (h1.mono (Nat.le_succ _)) h2
        clear h1 h2
        go_wp2_with fail
        go_roundw
        case rel => exact ⟨k + 1, S2, by omega, by omega, by go_num, G2, E2, M1⟩
        case measure => simp [intOf]; omega
    · obtain ⟨fa, fb⟩ := facts hG.out NE.out
      have t1 : Hid _ := TT.out S k a2 w2
      have t2 : Hid _ := TT.out S k a3 w3
      have t3 : Hid _ := DT.out S hG.out k a2 w2
      have t4 : Hid _ := TT.out (dropS S a2) k a2 w2
      have t5 : Hid _ := GT.out (dropS S a2) (hG.out.drop a2) (by have := (hG.out.ok.drop a2).2.1; have := hE.out; omega) k (by have := ML.out; omega) a2 w2
      have t6 : Hid _ := TT.out (getS (dropS S a2) a2) (k + 1) a3 w3
      rw [drop_self] at t4
      have t4' : Hid (∀ W : World, IsTags W (w.heap.size + 2) w.heap.size (w.heap.size + 1) k (dropS S a2) → Calls Try.prog 14 #[.pointer (some ⟨w.heap.size + 2, 0, none⟩), .int .i64 a2] W fun e w' => e = .returned (.tuple #[.int .i64 0, .bool false]) ∧ w' = W) := t4
      clear t4 GT DT TT OT ET HA
      generalize dropS S a2 = S1 at t3 t4' t5 t6 fa fb
      generalize getS S1 a2 = S2 at t5 t6 fa fb
      generalize getV S1 a2 = z at t5 fb
      generalize getB S1 a2 = ov at t5 fa fb
      generalize S2.T a3 = X2 at t6 fa fb
      generalize S.T a2 = X0 at t1 fb
      generalize S.T a3 = X1 at t2 fb
      have hstop : (decide ((k : Int) < (n1 : Int)) = false) ∨ (decide ((k : Int) < (n1 : Int)) = true ∧ decide ((k : Int) < 60) = false) := by
        by_cases c : k < n1
        · exact Or.inr ⟨by simp; omega, by simp; omega⟩
        · exact Or.inl (by simp; omega)
      have M : Hid (∀ W : World, Own w W (w.heap.size + 2) w.heap.size (w.heap.size + 1) k S → ∀ W', IsTags W' (w.heap.size + 2) w.heap.size (w.heap.size + 1) k S1 → Kp (w.heap.size + 2) w.heap.size (w.heap.size + 1) W W' → Own w W' (w.heap.size + 2) w.heap.size (w.heap.size + 1) k S1) := fun W h W' h1 h2 => h.next h1 h2
      clear M
      by_cases hq : k < n1
      rotate_left
      · have hd : decide ((k : Int) < (n1 : Int)) = false := by simp; omega
        clear hlt hstop
        cases ov
        · obtain ⟨f1, f2, f3⟩ := fb rfl
          subst f1
          clear fa fb
          cases X0 with
          | none =>
            clear f2
            cases X2 with
            | none =>
              clear f3
              simp only [Option.getD, Option.isSome] at t1 t2 t6
              go_wp2_with fail
              refine (t1.out _ hM.out.1).mono ?_
              rintro e u1 ⟨rfl, rfl⟩
              go_wp2_with fail
              refine (t2.out _ hM.out.1).mono ?_
              rintro e u2 ⟨rfl, rfl⟩
              go_wp2_with fail
              refine (t3.out _ hM.out.1).mono ?_
              rintro e u3 ⟨rfl, h1, h2⟩
              have M3 : Hid (Own w u3 (w.heap.size + 2) w.heap.size (w.heap.size + 1) k S1) := hM.out.next h1 h2
              clear h1 h2
              go_wp2_with fail
              refine (t4'.out _ M3.out.1).mono ?_
              rintro e u4 ⟨rfl, rfl⟩
              go_wp2_with fail
              refine (t5.out _ M3.out.1).mono ?_
              rintro e u5 ⟨rfl, h1, h2⟩
              have M5 : Hid (Own w u5 (w.heap.size + 2) w.heap.size (w.heap.size + 1) (k + 1) S2) := M3.out.next h1 h2
              clear h1 h2
              go_wp2_with fail
              refine (t6.out _ M5.out.1).mono ?_
              rintro e u6 ⟨rfl, rfl⟩
              go_wp2_with fail
              refine (AWH.out _).mono ?_
              rintro e u9 ⟨rfl, hb⟩
              have B9 : Hid (Below w.heap.size w u9) := (below_then M5.out.2.1 hb)
              clear hb
              go_wp2_with fail
              go_ret
              exact ⟨rfl, B9.out⟩
            | some y =>
              have n3 : (z != y) = true := by simp [f3 y rfl]
              clear f3
              simp only [Option.getD, Option.isSome] at t1 t2 t6
              go_wp2_with fail
              refine (t1.out _ hM.out.1).mono ?_
              rintro e u1 ⟨rfl, rfl⟩
              go_wp2_with fail
              refine (t2.out _ hM.out.1).mono ?_
              rintro e u2 ⟨rfl, rfl⟩
              go_wp2_with fail
              refine (t3.out _ hM.out.1).mono ?_
              rintro e u3 ⟨rfl, h1, h2⟩
              have M3 : Hid (Own w u3 (w.heap.size + 2) w.heap.size (w.heap.size + 1) k S1) := hM.out.next h1 h2
              clear h1 h2
              go_wp2_with fail
              refine (t4'.out _ M3.out.1).mono ?_
              rintro e u4 ⟨rfl, rfl⟩
              go_wp2_with fail
              refine (t5.out _ M3.out.1).mono ?_
              rintro e u5 ⟨rfl, h1, h2⟩
              have M5 : Hid (Own w u5 (w.heap.size + 2) w.heap.size (w.heap.size + 1) (k + 1) S2) := M3.out.next h1 h2
              clear h1 h2
              go_wp2_with fail
              refine (t6.out _ M5.out.1).mono ?_
              rintro e u6 ⟨rfl, rfl⟩
              go_wp2_with fail
              refine (AWH.out _).mono ?_
              rintro e u9 ⟨rfl, hb⟩
              have B9 : Hid (Below w.heap.size w u9) := (below_then M5.out.2.1 hb)
              clear hb
              go_wp2_with fail
              go_ret
              exact ⟨rfl, B9.out⟩
          | some x =>
            have n2 : (z == x) = false := by simp [f2 x rfl]
            clear f2
            cases X2 with
            | none =>
              clear f3
              simp only [Option.getD, Option.isSome] at t1 t2 t6
              go_wp2_with fail
              refine (t1.out _ hM.out.1).mono ?_
              rintro e u1 ⟨rfl, rfl⟩
              go_wp2_with fail
              refine (t2.out _ hM.out.1).mono ?_
              rintro e u2 ⟨rfl, rfl⟩
              go_wp2_with fail
              refine (t3.out _ hM.out.1).mono ?_
              rintro e u3 ⟨rfl, h1, h2⟩
              have M3 : Hid (Own w u3 (w.heap.size + 2) w.heap.size (w.heap.size + 1) k S1) := hM.out.next h1 h2
              clear h1 h2
              go_wp2_with fail
              refine (t4'.out _ M3.out.1).mono ?_
              rintro e u4 ⟨rfl, rfl⟩
              go_wp2_with fail
              refine (t5.out _ M3.out.1).mono ?_
              rintro e u5 ⟨rfl, h1, h2⟩
              have M5 : Hid (Own w u5 (w.heap.size + 2) w.heap.size (w.heap.size + 1) (k + 1) S2) := M3.out.next h1 h2
              clear h1 h2
              go_wp2_with fail
              refine (t6.out _ M5.out.1).mono ?_
              rintro e u6 ⟨rfl, rfl⟩
              go_wp2_with fail
              refine (AWH.out _).mono ?_
              rintro e u9 ⟨rfl, hb⟩
              have B9 : Hid (Below w.heap.size w u9) := (below_then M5.out.2.1 hb)
              clear hb
              go_wp2_with fail
              go_ret
              exact ⟨rfl, B9.out⟩
            | some y =>
              have n3 : (z != y) = true := by simp [f3 y rfl]
              clear f3
              simp only [Option.getD, Option.isSome] at t1 t2 t6
              go_wp2_with fail
              refine (t1.out _ hM.out.1).mono ?_
              rintro e u1 ⟨rfl, rfl⟩
              go_wp2_with fail
              refine (t2.out _ hM.out.1).mono ?_
              rintro e u2 ⟨rfl, rfl⟩
              go_wp2_with fail
              refine (t3.out _ hM.out.1).mono ?_
              rintro e u3 ⟨rfl, h1, h2⟩
              have M3 : Hid (Own w u3 (w.heap.size + 2) w.heap.size (w.heap.size + 1) k S1) := hM.out.next h1 h2
              clear h1 h2
              go_wp2_with fail
              refine (t4'.out _ M3.out.1).mono ?_
              rintro e u4 ⟨rfl, rfl⟩
              go_wp2_with fail
              refine (t5.out _ M3.out.1).mono ?_
              rintro e u5 ⟨rfl, h1, h2⟩
              have M5 : Hid (Own w u5 (w.heap.size + 2) w.heap.size (w.heap.size + 1) (k + 1) S2) := M3.out.next h1 h2
              clear h1 h2
              go_wp2_with fail
              refine (t6.out _ M5.out.1).mono ?_
              rintro e u6 ⟨rfl, rfl⟩
              go_wp2_with fail
              refine (AWH.out _).mono ?_
              rintro e u9 ⟨rfl, hb⟩
              have B9 : Hid (Below w.heap.size w u9) := (below_then M5.out.2.1 hb)
              clear hb
              go_wp2_with fail
              go_ret
              exact ⟨rfl, B9.out⟩
        · have f1 := fa rfl
          subst f1
          clear fa fb
          generalize X1.getD 0 = y1 at t2
          generalize X1.isSome = y2 at t2
          cases X0 with
          | none =>
            simp only [Option.getD, Option.isSome] at t1 t2 t6
            go_wp2_with fail
            refine (t1.out _ hM.out.1).mono ?_
            rintro e u1 ⟨rfl, rfl⟩
            go_wp2_with fail
            refine (t2.out _ hM.out.1).mono ?_
            rintro e u2 ⟨rfl, rfl⟩
            go_wp2_with fail
            refine (t3.out _ hM.out.1).mono ?_
            rintro e u3 ⟨rfl, h1, h2⟩
            have M3 : Hid (Own w u3 (w.heap.size + 2) w.heap.size (w.heap.size + 1) k S1) := hM.out.next h1 h2
            clear h1 h2
            go_wp2_with fail
            refine (t4'.out _ M3.out.1).mono ?_
            rintro e u4 ⟨rfl, rfl⟩
            go_wp2_with fail
            refine (t5.out _ M3.out.1).mono ?_
            rintro e u5 ⟨rfl, h1, h2⟩
            have M5 : Hid (Own w u5 (w.heap.size + 2) w.heap.size (w.heap.size + 1) (k + 1) S2) := M3.out.next h1 h2
            clear h1 h2
            go_wp2_with fail
            refine (t6.out _ M5.out.1).mono ?_
            rintro e u6 ⟨rfl, rfl⟩
            go_wp2_with fail
            refine (AWH.out _).mono ?_
            rintro e u9 ⟨rfl, hb⟩
            have B9 : Hid (Below w.heap.size w u9) := (below_then M5.out.2.1 hb)
            clear hb
            go_wp2_with fail
            go_ret
            exact ⟨rfl, B9.out⟩
          | some x =>
            by_cases zx : z = x
            · have n2 : (z == x) = true := by simp [zx]
              clear zx
              simp only [Option.getD, Option.isSome] at t1 t2 t6
              go_wp2_with fail
              refine (t1.out _ hM.out.1).mono ?_
              rintro e u1 ⟨rfl, rfl⟩
              go_wp2_with fail
              refine (t2.out _ hM.out.1).mono ?_
              rintro e u2 ⟨rfl, rfl⟩
              go_wp2_with fail
              refine (t3.out _ hM.out.1).mono ?_
              rintro e u3 ⟨rfl, h1, h2⟩
              have M3 : Hid (Own w u3 (w.heap.size + 2) w.heap.size (w.heap.size + 1) k S1) := hM.out.next h1 h2
              clear h1 h2
              go_wp2_with fail
              refine (t4'.out _ M3.out.1).mono ?_
              rintro e u4 ⟨rfl, rfl⟩
              go_wp2_with fail
              refine (t5.out _ M3.out.1).mono ?_
              rintro e u5 ⟨rfl, h1, h2⟩
              have M5 : Hid (Own w u5 (w.heap.size + 2) w.heap.size (w.heap.size + 1) (k + 1) S2) := M3.out.next h1 h2
              clear h1 h2
              go_wp2_with fail
              refine (t6.out _ M5.out.1).mono ?_
              rintro e u6 ⟨rfl, rfl⟩
              go_wp2_with fail
              refine (AWH.out _).mono ?_
              rintro e u9 ⟨rfl, hb⟩
              have B9 : Hid (Below w.heap.size w u9) := (below_then M5.out.2.1 hb)
              clear hb
              go_wp2_with fail
              go_ret
              exact ⟨rfl, B9.out⟩
            · have n2 : (z == x) = false := by simp [zx]
              clear zx
              simp only [Option.getD, Option.isSome] at t1 t2 t6
              go_wp2_with fail
              refine (t1.out _ hM.out.1).mono ?_
              rintro e u1 ⟨rfl, rfl⟩
              go_wp2_with fail
              refine (t2.out _ hM.out.1).mono ?_
              rintro e u2 ⟨rfl, rfl⟩
              go_wp2_with fail
              refine (t3.out _ hM.out.1).mono ?_
              rintro e u3 ⟨rfl, h1, h2⟩
              have M3 : Hid (Own w u3 (w.heap.size + 2) w.heap.size (w.heap.size + 1) k S1) := hM.out.next h1 h2
              clear h1 h2
              go_wp2_with fail
              refine (t4'.out _ M3.out.1).mono ?_
              rintro e u4 ⟨rfl, rfl⟩
              go_wp2_with fail
              refine (t5.out _ M3.out.1).mono ?_
              rintro e u5 ⟨rfl, h1, h2⟩
              have M5 : Hid (Own w u5 (w.heap.size + 2) w.heap.size (w.heap.size + 1) (k + 1) S2) := M3.out.next h1 h2
              clear h1 h2
              go_wp2_with fail
              refine (t6.out _ M5.out.1).mono ?_
              rintro e u6 ⟨rfl, rfl⟩
              go_wp2_with fail
              refine (AWH.out _).mono ?_
              rintro e u9 ⟨rfl, hb⟩
              have B9 : Hid (Below w.heap.size w u9) := (below_then M5.out.2.1 hb)
              clear hb
              go_wp2_with fail
              go_ret
              exact ⟨rfl, B9.out⟩
      · have hd : decide ((k : Int) < (n1 : Int)) = true := by simp; omega
        have hd2 : decide ((k : Int) < 60) = false := by simp; omega
        clear hlt hstop
        cases ov
        · obtain ⟨f1, f2, f3⟩ := fb rfl
          subst f1
          clear fa fb
          cases X0 with
          | none =>
            clear f2
            cases X2 with
            | none =>
              clear f3
              simp only [Option.getD, Option.isSome] at t1 t2 t6
              go_wp2_with fail
              refine (t1.out _ hM.out.1).mono ?_
              rintro e u1 ⟨rfl, rfl⟩
              go_wp2_with fail
              refine (t2.out _ hM.out.1).mono ?_
              rintro e u2 ⟨rfl, rfl⟩
              go_wp2_with fail
              refine (t3.out _ hM.out.1).mono ?_
              rintro e u3 ⟨rfl, h1, h2⟩
              have M3 : Hid (Own w u3 (w.heap.size + 2) w.heap.size (w.heap.size + 1) k S1) := hM.out.next h1 h2
              clear h1 h2
              go_wp2_with fail
              refine (t4'.out _ M3.out.1).mono ?_
              rintro e u4 ⟨rfl, rfl⟩
              go_wp2_with fail
              refine (t5.out _ M3.out.1).mono ?_
              rintro e u5 ⟨rfl, h1, h2⟩
              have M5 : Hid (Own w u5 (w.heap.size + 2) w.heap.size (w.heap.size + 1) (k + 1) S2) := M3.out.next h1 h2
              clear h1 h2
              go_wp2_with fail
              refine (t6.out _ M5.out.1).mono ?_
              rintro e u6 ⟨rfl, rfl⟩
              go_wp2_with fail
              refine (AWH.out _).mono ?_
              rintro e u9 ⟨rfl, hb⟩
              have B9 : Hid (Below w.heap.size w u9) := (below_then M5.out.2.1 hb)
              clear hb
              go_wp2_with fail
              go_ret
              exact ⟨rfl, B9.out⟩
            | some y =>
              have n3 : (z != y) = true := by simp [f3 y rfl]
              clear f3
              simp only [Option.getD, Option.isSome] at t1 t2 t6
              go_wp2_with fail
              refine (t1.out _ hM.out.1).mono ?_
              rintro e u1 ⟨rfl, rfl⟩
              go_wp2_with fail
              refine (t2.out _ hM.out.1).mono ?_
              rintro e u2 ⟨rfl, rfl⟩
              go_wp2_with fail
              refine (t3.out _ hM.out.1).mono ?_
              rintro e u3 ⟨rfl, h1, h2⟩
              have M3 : Hid (Own w u3 (w.heap.size + 2) w.heap.size (w.heap.size + 1) k S1) := hM.out.next h1 h2
              clear h1 h2
              go_wp2_with fail
              refine (t4'.out _ M3.out.1).mono ?_
              rintro e u4 ⟨rfl, rfl⟩
              go_wp2_with fail
              refine (t5.out _ M3.out.1).mono ?_
              rintro e u5 ⟨rfl, h1, h2⟩
              have M5 : Hid (Own w u5 (w.heap.size + 2) w.heap.size (w.heap.size + 1) (k + 1) S2) := M3.out.next h1 h2
              clear h1 h2
              go_wp2_with fail
              refine (t6.out _ M5.out.1).mono ?_
              rintro e u6 ⟨rfl, rfl⟩
              go_wp2_with fail
              refine (AWH.out _).mono ?_
              rintro e u9 ⟨rfl, hb⟩
              have B9 : Hid (Below w.heap.size w u9) := (below_then M5.out.2.1 hb)
              clear hb
              go_wp2_with fail
              go_ret
              exact ⟨rfl, B9.out⟩
          | some x =>
            have n2 : (z == x) = false := by simp [f2 x rfl]
            clear f2
            cases X2 with
            | none =>
              clear f3
              simp only [Option.getD, Option.isSome] at t1 t2 t6
              go_wp2_with fail
              refine (t1.out _ hM.out.1).mono ?_
              rintro e u1 ⟨rfl, rfl⟩
              go_wp2_with fail
              refine (t2.out _ hM.out.1).mono ?_
              rintro e u2 ⟨rfl, rfl⟩
              go_wp2_with fail
              refine (t3.out _ hM.out.1).mono ?_
              rintro e u3 ⟨rfl, h1, h2⟩
              have M3 : Hid (Own w u3 (w.heap.size + 2) w.heap.size (w.heap.size + 1) k S1) := hM.out.next h1 h2
              clear h1 h2
              go_wp2_with fail
              refine (t4'.out _ M3.out.1).mono ?_
              rintro e u4 ⟨rfl, rfl⟩
              go_wp2_with fail
              refine (t5.out _ M3.out.1).mono ?_
              rintro e u5 ⟨rfl, h1, h2⟩
              have M5 : Hid (Own w u5 (w.heap.size + 2) w.heap.size (w.heap.size + 1) (k + 1) S2) := M3.out.next h1 h2
              clear h1 h2
              go_wp2_with fail
              refine (t6.out _ M5.out.1).mono ?_
              rintro e u6 ⟨rfl, rfl⟩
              go_wp2_with fail
              refine (AWH.out _).mono ?_
              rintro e u9 ⟨rfl, hb⟩
              have B9 : Hid (Below w.heap.size w u9) := (below_then M5.out.2.1 hb)
              clear hb
              go_wp2_with fail
              go_ret
              exact ⟨rfl, B9.out⟩
            | some y =>
              have n3 : (z != y) = true := by simp [f3 y rfl]
              clear f3
              simp only [Option.getD, Option.isSome] at t1 t2 t6
              go_wp2_with fail
              refine (t1.out _ hM.out.1).mono ?_
              rintro e u1 ⟨rfl, rfl⟩
              go_wp2_with fail
              refine (t2.out _ hM.out.1).mono ?_
              rintro e u2 ⟨rfl, rfl⟩
              go_wp2_with fail
              refine (t3.out _ hM.out.1).mono ?_
              rintro e u3 ⟨rfl, h1, h2⟩
              have M3 : Hid (Own w u3 (w.heap.size + 2) w.heap.size (w.heap.size + 1) k S1) := hM.out.next h1 h2
              clear h1 h2
              go_wp2_with fail
              refine (t4'.out _ M3.out.1).mono ?_
              rintro e u4 ⟨rfl, rfl⟩
              go_wp2_with fail
              refine (t5.out _ M3.out.1).mono ?_
              rintro e u5 ⟨rfl, h1, h2⟩
              have M5 : Hid (Own w u5 (w.heap.size + 2) w.heap.size (w.heap.size + 1) (k + 1) S2) := M3.out.next h1 h2
              clear h1 h2
              go_wp2_with fail
              refine (t6.out _ M5.out.1).mono ?_
              rintro e u6 ⟨rfl, rfl⟩
              go_wp2_with fail
              refine (AWH.out _).mono ?_
              rintro e u9 ⟨rfl, hb⟩
              have B9 : Hid (Below w.heap.size w u9) := (below_then M5.out.2.1 hb)
              clear hb
              go_wp2_with fail
              go_ret
              exact ⟨rfl, B9.out⟩
        · have f1 := fa rfl
          subst f1
          clear fa fb
          generalize X1.getD 0 = y1 at t2
          generalize X1.isSome = y2 at t2
          cases X0 with
          | none =>
            simp only [Option.getD, Option.isSome] at t1 t2 t6
            go_wp2_with fail
            refine (t1.out _ hM.out.1).mono ?_
            rintro e u1 ⟨rfl, rfl⟩
            go_wp2_with fail
            refine (t2.out _ hM.out.1).mono ?_
            rintro e u2 ⟨rfl, rfl⟩
            go_wp2_with fail
            refine (t3.out _ hM.out.1).mono ?_
            rintro e u3 ⟨rfl, h1, h2⟩
            have M3 : Hid (Own w u3 (w.heap.size + 2) w.heap.size (w.heap.size + 1) k S1) := hM.out.next h1 h2
            clear h1 h2
            go_wp2_with fail
            refine (t4'.out _ M3.out.1).mono ?_
            rintro e u4 ⟨rfl, rfl⟩
            go_wp2_with fail
            refine (t5.out _ M3.out.1).mono ?_
            rintro e u5 ⟨rfl, h1, h2⟩
            have M5 : Hid (Own w u5 (w.heap.size + 2) w.heap.size (w.heap.size + 1) (k + 1) S2) := M3.out.next h1 h2
            clear h1 h2
            go_wp2_with fail
            refine (t6.out _ M5.out.1).mono ?_
            rintro e u6 ⟨rfl, rfl⟩
            go_wp2_with fail
            refine (AWH.out _).mono ?_
            rintro e u9 ⟨rfl, hb⟩
            have B9 : Hid (Below w.heap.size w u9) := (below_then M5.out.2.1 hb)
            clear hb
            go_wp2_with fail
            go_ret
            exact ⟨rfl, B9.out⟩
          | some x =>
            by_cases zx : z = x
            · have n2 : (z == x) = true := by simp [zx]
              clear zx
              simp only [Option.getD, Option.isSome] at t1 t2 t6
              go_wp2_with fail
              refine (t1.out _ hM.out.1).mono ?_
              rintro e u1 ⟨rfl, rfl⟩
              go_wp2_with fail
              refine (t2.out _ hM.out.1).mono ?_
              rintro e u2 ⟨rfl, rfl⟩
              go_wp2_with fail
              refine (t3.out _ hM.out.1).mono ?_
              rintro e u3 ⟨rfl, h1, h2⟩
              have M3 : Hid (Own w u3 (w.heap.size + 2) w.heap.size (w.heap.size + 1) k S1) := hM.out.next h1 h2
              clear h1 h2
              go_wp2_with fail
              refine (t4'.out _ M3.out.1).mono ?_
              rintro e u4 ⟨rfl, rfl⟩
              go_wp2_with fail
              refine (t5.out _ M3.out.1).mono ?_
              rintro e u5 ⟨rfl, h1, h2⟩
              have M5 : Hid (Own w u5 (w.heap.size + 2) w.heap.size (w.heap.size + 1) (k + 1) S2) := M3.out.next h1 h2
              clear h1 h2
              go_wp2_with fail
              refine (t6.out _ M5.out.1).mono ?_
              rintro e u6 ⟨rfl, rfl⟩
              go_wp2_with fail
              refine (AWH.out _).mono ?_
              rintro e u9 ⟨rfl, hb⟩
              have B9 : Hid (Below w.heap.size w u9) := (below_then M5.out.2.1 hb)
              clear hb
              go_wp2_with fail
              go_ret
              exact ⟨rfl, B9.out⟩
            · have n2 : (z == x) = false := by simp [zx]
              clear zx
              simp only [Option.getD, Option.isSome] at t1 t2 t6
              go_wp2_with fail
              refine (t1.out _ hM.out.1).mono ?_
              rintro e u1 ⟨rfl, rfl⟩
              go_wp2_with fail
              refine (t2.out _ hM.out.1).mono ?_
              rintro e u2 ⟨rfl, rfl⟩
              go_wp2_with fail
              refine (t3.out _ hM.out.1).mono ?_
              rintro e u3 ⟨rfl, h1, h2⟩
              have M3 : Hid (Own w u3 (w.heap.size + 2) w.heap.size (w.heap.size + 1) k S1) := hM.out.next h1 h2
              clear h1 h2
              go_wp2_with fail
              refine (t4'.out _ M3.out.1).mono ?_
              rintro e u4 ⟨rfl, rfl⟩
              go_wp2_with fail
              refine (t5.out _ M3.out.1).mono ?_
              rintro e u5 ⟨rfl, h1, h2⟩
              have M5 : Hid (Own w u5 (w.heap.size + 2) w.heap.size (w.heap.size + 1) (k + 1) S2) := M3.out.next h1 h2
              clear h1 h2
              go_wp2_with fail
              refine (t6.out _ M5.out.1).mono ?_
              rintro e u6 ⟨rfl, rfl⟩
              go_wp2_with fail
              refine (AWH.out _).mono ?_
              rintro e u9 ⟨rfl, hb⟩
              have B9 : Hid (Below w.heap.size w u9) := (below_then M5.out.2.1 hb)
              clear hb
              go_wp2_with fail
              go_ret
              exact ⟨rfl, B9.out⟩

theorem own : ownKnob Try.prog.godebug = none := by kernel_rfl
theorem laidOut : laidOutB Try.prog = true := by kernel_rfl
set_option maxRecDepth 100000 in
theorem lifted (os : Os) (started : os.Started) (H : Type) (enc : TypeId × Value → H) :
    ReturnsInHanded {} Try.checked os 7 .any (Rows.pcidDropsSpec.pre6 enc Try.prog Try.f7 Rows.pcidDropsRow.domain false) (Rows.pcidDropsSpec.post enc Try.prog Try.f7 false true false false) := by
  refine returnsInHanded_of_change (C := Try.checked) own started (by kernel_rfl) Try.func7
    (ChangeSpec.witness6 (enc := enc) (C := Try.checked) false ⟨#[], #[.int .i64 0, .slice none 0 0, .int .i64 0, .int .i64 0], []⟩ 8 (by kernel_rfl) (by kernel_rfl) (by kernel_rfl) (by kernel_rfl)) ?_
  intro W base args ds gs before hval0 hW hcnd _
  have hval : ∀ (j : Nat) t v, Try.f7.params[j]? = some t → args[j]? = some v → Value.okWide Try.prog W .any base t v := hval0
  have hW' := hW
  obtain ⟨p, q, hA0, hV, hbef, hfz, hnd⟩ := hW
  have hA : DataW.TrodAll enc Try.prog W 0 (fun _ => true) true Try.f7.params.toList args.toList ds p := hA0
  have hAk := hA
  have hlt : ∀ x ∈ p, x.block < W.heap.size := fun x hx => hW'.lt x (by rw [hbef]; exact List.mem_append_left _ hx)
  rw [Try.params7] at hA hval
  obtain ⟨v0, vs0, d0, ds0, p0, q0, hargs, rfl, hp0, h0, r0⟩ := trodAll_cons hA
  obtain ⟨v1, vs1, d1, ds1, p1, q1, rfl, rfl, hp1, h1, r1⟩ := trodAll_cons r0
  obtain ⟨v2, vs2, d2, ds2, p2, q2, rfl, rfl, hp2, h2, r2⟩ := trodAll_cons r1
  obtain ⟨v3, vs3, d3, ds3, p3, q3, rfl, rfl, hp3, h3, r3⟩ := trodAll_cons r2
  obtain ⟨rfl, rfl, hpz⟩ := trodAll_nil r3
  obtain rfl : args = #[v0, v1, v2, v3] := by cases args; simp_all
  obtain ⟨rfl, rfl⟩ := trodVars_none hV
  obtain ⟨a0, rfl, _, _, w0⟩ := open_int Try.underlying3 (hval 0 3 v0 rfl rfl) h0
  obtain ⟨p1, n1, c1, A1, rfl, m1, H1⟩ := open_acts (hval 1 22 v1 rfl rfl) h1
  obtain ⟨a2, rfl, _, _, w2⟩ := open_int Try.underlying3 (hval 2 3 v2 rfl rfl) h2
  obtain ⟨a3, rfl, _, _, w3⟩ := open_int Try.underlying3 (hval 3 3 v3 rfl rfl) h3
  clear hA0 hval0
  refine (walk a0 w0 p1 n1 c1 A1 m1 a2 w2 a3 w3 W H1).mono fun e W' ⟨he, hg⟩ => ?_
  subst he
  exact ⟨_, rfl, ⟨_, _, _, [], p, [], hW', (trodAll_cons_mk (shut_bool Try.underlying4 _) trodAll_mk0), args_stay laidOut hg (by kernel_rfl) hAk hlt, rfl, hg.frame _, fun h => by cases h⟩⟩

theorem over : Rows.pcidDropsRow.holds Try.pinned (OpenSpec.ofChange Rows.pcidDropsSpec) :=
  OpenClaim.holds_of_wide 7 Try.f7 rfl rfl rfl rfl rfl rfl rfl ⟨rfl, rfl, rfl, rfl, rfl⟩ rfl rfl rfl rfl rfl (by kernel_rfl) Try.func7 (by kernel_rfl)
    (of_decide_eq_true (by kernel_rfl)) (by unfold Func.isWrapper; first | (rw [if_pos (by decide +kernel)]; kernel_rfl) | (rw [if_neg (by decide +kernel)]; exact ⟨rfl, rfl⟩))
    (fun os started H enc _ => lifted os started H enc)

theorem proved : Rows.PcidDropsSaid :=
  over
#print axioms proved
end Go.Proofs.Ytbdakoijhpobdaa.pcidDrops
