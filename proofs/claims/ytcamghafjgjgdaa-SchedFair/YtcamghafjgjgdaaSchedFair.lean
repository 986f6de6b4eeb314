/- For any length of turns up to 20 and any calls: behind any 40 calls, within as many turns as there are each that waits had just one, in its order; no condition. -/
import Derived.Test.YtcamghafjgjgdaaRows
import Derived.ProofKit
import Derived.OpenShut
import Derived.Carry
import Derived.Test.YtcamghafjgjgdaaH9
namespace Go.Proofs.Ytcamghafjgjgdaa.schedFair
open Go.ChangeShapes Go.WideShapes Go.ChangeAt Go.RowKit Go.Maps
set_option linter.unusedSimpArgs false
set_option linter.unusedVariables false
theorem yld_t0 {S : Qu} (h : S.t = 0) : (yldS S).t = 0 := by
  unfold yldS
  obtain ⟨q, t, L⟩ := S
  cases L with
  | nil => exact h
  | cons x r => rfl
/-- within a turn: behind i ticks of q -/
def Mid (S : Qu) (L : List Int) (q j i : Nat) : Prop := (i < q ∧ S = ⟨(q : Int), (i : Int), rotN L j⟩) ∨ (i = q ∧ S = ⟨(q : Int), 0, rotN L (j + 1)⟩)
theorem mid_zero (L : List Int) (q j : Nat) (h : 0 < q) : Mid ⟨(q : Int), 0, rotN L j⟩ L q j 0 := Or.inl ⟨h, rfl⟩
theorem mid_next {S : Qu} {L : List Int} {q j i : Nat} (hL : 0 < L.length) (hi : i < q) (h : Mid S L q j i) : (i + 1 < q ∧ tckB S = false ∧ Mid (tckS S) L q j (i + 1)) ∨ (i + 1 = q ∧ tckB S = true ∧ Mid (tckS S) L q j (i + 1)) := by
  rcases h with ⟨_, rfl⟩ | ⟨e, _⟩
  · have hl : 0 < (rotN L j).length := by rw [rot_len]; exact hL
    rcases tck_cases (q := (q : Int)) (t := (i : Int)) hl with ⟨c1, e1, e2⟩ | ⟨c1, e1, e2⟩
    · exact Or.inl ⟨by omega, e1, Or.inl ⟨by omega, by rw [e2]; rfl⟩⟩
    · exact Or.inr ⟨by omega, e1, Or.inr ⟨by omega, by rw [e2, rot_next]⟩⟩
  · omega
theorem mid_end {S : Qu} {L : List Int} {q j : Nat} (h : Mid S L q j q) : S = ⟨(q : Int), 0, rotN L (j + 1)⟩ := by
  rcases h with ⟨e, _⟩ | ⟨_, h⟩
  · omega
  · exact h

set_option maxRecDepth 8000 in
set_option maxHeartbeats 8000000 in
theorem walk (a0 : Int) (w0 : (Lit.int .i64 a0).wf = true) (p1 : Option Addr) (n1 c1 : Nat) (A1 : Nat → Ac) (m1 : n1 ≤ maxLen) (w : World) (H1 : IsActs w p1 n1 A1) :
    Calls Try.prog 5 #[.int .i64 a0, .slice p1 n1 c1] w fun e w' => e = .returned (.bool true) ∧ Below w.heap.size w w' := by
  have AWH : Hid (∀ W : World, Calls Try.prog 9 #[] W fun e w' => e = .returned (.bool true) ∧ Below W.heap.size W w') := fun W => awake_any W
  by_cases q0 : a0 < 1 ∨ 1000 < a0
  · have NW : Hid (∀ W : World, Calls Try.prog 8 #[.int .i64 a0] W fun e w' => e = .returned (.tuple #[.pointer none, .int .i64 1]) ∧ w' = W) := fun W => new_no a0 q0 W
    go_enter Try.func5, Try.ntmps5
    go_wp2_with fail
    refine (NW.out _).mono ?_
    rintro e u ⟨rfl, hu⟩
    have hu2 := hu.symm
    subst hu2
    clear hu
    go_wp2_with fail
    refine (AWH.out _).mono ?_
    rintro e u9 ⟨rfl, hb⟩
    have B9 : Hid (Below w.heap.size w u9) := hb
    clear hb
    go_wp2_with fail
    go_ret
    exact ⟨rfl, B9.out⟩
  have NW : Hid (Calls Try.prog 8 #[.int .i64 a0] w fun e w' => e = .returned (.tuple #[.pointer (some ⟨w.heap.size, 0, none⟩), .int .i64 0]) ∧ Own w w' w.heap.size ⟨a0, 0, []⟩) := new_ok a0 (by omega) (by omega) w
  by_cases x0 : 20 < a0
  · have dx0 : decide (20 < a0) = true := by simp; omega
    go_enter Try.func5, Try.ntmps5
    go_wp2_with fail
    refine NW.out.mono ?_
    rintro e u0 ⟨rfl, h0⟩
    have M0 : Hid (Own w u0 w.heap.size ⟨a0, 0, []⟩) := h0
    clear h0 NW
    go_wp2_with fail
    refine (AWH.out _).mono ?_
    rintro e u9 ⟨rfl, hb⟩
    have B9 : Hid (Below w.heap.size w u9) := (below_then M0.out.2.1 hb)
    clear hb
    go_wp2_with fail
    go_ret
    exact ⟨rfl, B9.out⟩
  have dx0 : decide (20 < a0) = false := by simp; omega
  obtain ⟨i0, hi, hz0, hz1, hz2⟩ := infoI
  have AD : Hid (∀ (S : Qu), Good S → ∀ p : Int, ∀ W : World, IsQ W w.heap.size S → Calls Try.prog 10 #[.pointer (some ⟨w.heap.size, 0, none⟩), .int .i64 p] W fun e w' => e = .returned (.int .i64 (addE S p)) ∧ IsQ w' w.heap.size (addS S p) ∧ Kb w.heap.size W w') := fun S g p W h => add_any _ S p g W h
  have RM : Hid (∀ (S : Qu), Good S → ∀ p : Int, ∀ W : World, IsQ W w.heap.size S → Calls Try.prog 12 #[.pointer (some ⟨w.heap.size, 0, none⟩), .int .i64 p] W fun e w' => e = .returned (.int .i64 (remE S p)) ∧ IsQ w' w.heap.size (remS S p) ∧ Kb w.heap.size W w') := fun S g p W h => rem_any _ S p g W h
  have YL : Hid (∀ (S : Qu), ∀ W : World, IsQ W w.heap.size S → Calls Try.prog 14 #[.pointer (some ⟨w.heap.size, 0, none⟩)] W fun e w' => e = .returned (.tuple #[]) ∧ IsQ w' w.heap.size (yldS S) ∧ Kb w.heap.size W w') := fun S W h => yld_any _ S W h
  have TC : Hid (∀ (S : Qu), Good S → ∀ W : World, IsQ W w.heap.size S → Calls Try.prog 17 #[.pointer (some ⟨w.heap.size, 0, none⟩)] W fun e w' => e = .returned (.bool (tckB S)) ∧ IsQ w' w.heap.size (tckS S) ∧ Kb w.heap.size W w') := fun S g W h => tck_any _ S g W h
  have NO : Hid (∀ (S : Qu), ∀ W : World, IsQ W w.heap.size S → Calls Try.prog 18 #[.pointer (some ⟨w.heap.size, 0, none⟩)] W fun e w' => e = .returned (.tuple #[.int .i64 (nowV S.L), .bool (nowB S.L)]) ∧ Below W.heap.size W w') := fun S W h => now_any _ S W h
  have TI : Hid (∀ (S : Qu), ∀ W : World, IsQ W w.heap.size S → Calls Try.prog 21 #[.pointer (some ⟨w.heap.size, 0, none⟩)] W fun e w' => e = .returned (.int .i64 S.t) ∧ w' = W) := fun S W h => ticks_any _ S W h
  have LI : Hid (∀ (S : Qu), ∀ W : World, IsQ W w.heap.size S → Calls Try.prog 20 #[.pointer (some ⟨w.heap.size, 0, none⟩)] W fun e w' => (∃ p c, e = .returned (.slice p S.L.length c) ∧ IsI w' p S.L W.heap.size) ∧ Below W.heap.size W w') := fun S W h => line_any _ S W h
  have SA : Hid (∀ (p1 p2 : Option Addr) (c1 c2 : Nat) (L : List Int) (b1 b2 : Nat), L.length ≤ 1000 → ∀ W : World, IsI W p1 L b1 → IsI W p2 L b2 → Calls Try.prog 19 #[.slice p1 L.length c1, .slice p2 L.length c2] W fun e w' => e = .returned (.bool true) ∧ Below W.heap.size W w') := fun p1 p2 c1 c2 L b1 b2 hn W h1 h2 => (same_any p1 p2 c1 c2 L L b1 b2 hn W h1 h2).mono (fun e w' h => ⟨by rw [h.1]; simp, h.2⟩)
  have mm : (n1 : Int) ≤ 9223372036854775807 := by have : maxLen ≤ 9223372036854775807 := by decide +kernel
                                                   omega
  have HA : Hid (IsActs w p1 n1 A1) := H1
  have GF : Hid (Good ⟨a0, 0, []⟩) := fresh_good a0 (by omega) (by omega)
  clear q0 H1
  go_enter Try.func5, Try.ntmps5
  go_wp2_with fail
  refine NW.out.mono ?_
  rintro e u0 ⟨rfl, h0⟩
  have M0 : Hid (Own w u0 w.heap.size ⟨a0, 0, []⟩) := h0
  clear h0 NW
  go_wp2_with fail
  go_loopw [7] (fun x W => ∃ (k : Nat) (S : Qu), k ≤ n1 ∧ k ≤ 40 ∧ x = .int .i64 k ∧ Hid (Good S) ∧ Hid (S.q = a0) ∧ Hid (S.t = 0) ∧ Hid (Own w W w.heap.size S)) (fun x _ => 41 - (intOf x).toNat)
  case atStart => exact ⟨0, ⟨a0, 0, []⟩, by omega, by omega, rfl, GF, rfl, rfl, M0⟩
  case round =>
    obtain ⟨k, S, hk, hk40, rfl, hG, hQ, hT, hM⟩ := hrel
    by_cases hlt : k < n1
    · by_cases h40 : k < 40
      · have hd : decide ((k : Int) < (n1 : Int)) = true := by simp; omega
        have hd2 : decide ((k : Int) < 40) = true := by simp; omega
        obtain ⟨bq, oq, rfl, lq, y0, y1, wf⟩ := HA.out k hlt
        have z0 : wr.cell? ⟨bq, oq + k * 2, none⟩ = some (.int .i64 (A1 k).kind) := (World.cell?_of_block (hM.out.2.1.block bq lq)).trans y0
        have z1 : wr.cell? ⟨bq, oq + k * 2 + 1, none⟩ = some (.int .i64 (A1 k).sp) := (World.cell?_of_block (hM.out.2.1.block bq lq)).trans y1
        have lq2 : bq < wr.heap.size := Nat.lt_of_lt_of_le lq hM.out.2.1.size
        clear y0 y1
        generalize A1 k = ac at z0 z1 wf
        obtain ⟨kd, sp⟩ := ac
        simp only at z0 z1 wf
        by_cases c1 : kd = 1
        · have c1' : (kd == 1) = true := by simp [c1]
          subst c1
          go_wp2_with fail
          refine (AD.out S hG.out sp _ hM.out.1).mono ?_
          rintro e u1 ⟨rfl, h1, h2⟩
          have M1 : Hid (Own w u1 w.heap.size (addS S sp)) := hM.out.next h1 h2
          have T1 : Hid ((addS S sp).t = 0) := add_t sp hT.out
          have G1 : Hid (Good (addS S sp)) := hG.out.add sp
          have Q1 : Hid ((addS S sp).q = a0) := by show _ = _; first | rw [add_q, hQ.out] | rw [rem_q, hQ.out] | rw [yld_q, hQ.out] | rw [tck_q, hQ.out]
          clear h1 h2 hM hG
          go_wp2_with fail
          go_roundw
          case rel => exact ⟨k + 1, addS S sp, by omega, by omega, by go_num, G1, Q1, T1, M1⟩
          case measure => simp [intOf]; omega
        have c1' : (kd == 1) = false := by simp [c1]
        by_cases c2 : kd = 2
        · have c2' : (kd == 2) = true := by simp [c2]
          subst c2
          go_wp2_with fail
          refine (RM.out S hG.out sp _ hM.out.1).mono ?_
          rintro e u1 ⟨rfl, h1, h2⟩
          have M1 : Hid (Own w u1 w.heap.size (remS S sp)) := hM.out.next h1 h2
          have T1 : Hid ((remS S sp).t = 0) := rem_t sp hT.out
          have G1 : Hid (Good (remS S sp)) := hG.out.rem sp
          have Q1 : Hid ((remS S sp).q = a0) := by show _ = _; first | rw [add_q, hQ.out] | rw [rem_q, hQ.out] | rw [yld_q, hQ.out] | rw [tck_q, hQ.out]
          clear h1 h2 hM hG
          go_wp2_with fail
          go_roundw
          case rel => exact ⟨k + 1, remS S sp, by omega, by omega, by go_num, G1, Q1, T1, M1⟩
          case measure => simp [intOf]; omega
        have c2' : (kd == 2) = false := by simp [c2]
        by_cases c3 : kd = 3
        · have c3' : (kd == 3) = true := by simp [c3]
          subst c3
          go_wp2_with fail
          refine (YL.out S _ hM.out.1).mono ?_
          rintro e u1 ⟨rfl, h1, h2⟩
          have M1 : Hid (Own w u1 w.heap.size (yldS S)) := hM.out.next h1 h2
          have T1 : Hid ((yldS S).t = 0) := yld_t0 hT.out
          have G1 : Hid (Good (yldS S)) := hG.out.yld
          have Q1 : Hid ((yldS S).q = a0) := by show _ = _; first | rw [add_q, hQ.out] | rw [rem_q, hQ.out] | rw [yld_q, hQ.out] | rw [tck_q, hQ.out]
          clear h1 h2 hM hG
          go_wp2_with fail
          go_roundw
          case rel => exact ⟨k + 1, yldS S, by omega, by omega, by go_num, G1, Q1, T1, M1⟩
          case measure => simp [intOf]; omega
        have c3' : (kd == 3) = false := by simp [c3]
        go_wp2_with fail
        go_roundw
        case rel => exact ⟨k + 1, S, by omega, by omega, by go_num, hG, hQ, hT, hM⟩
        case measure => simp [intOf]; omega
      · have hd : decide ((k : Int) < (n1 : Int)) = true := by simp; omega
        have hd2 : decide ((k : Int) < 40) = false := by simp; omega
        have hd3 : ¬ (k : Int) < 40 := by omega
        go_wp2_with fail
        clear AD RM YL TI HA hk hk40 hd3
        obtain ⟨qs, ts, L⟩ := S
        have lf : L.length ≤ 16 := hG.out.few
        have tz : ts = 0 := hT.out
        subst tz
        have hq' : qs = a0 := hQ.out
        subst hq'
        have qq0 : 1 ≤ qs := hG.out.q0
        obtain ⟨q, hq⟩ : ∃ q : Nat, qs = q := ⟨qs.toNat, by omega⟩
        have HQ : Hid (qs = (q : Int)) := hq
        have hq0 : 0 < q := by omega
        have hq20 : q ≤ 20 := by omega
        clear hQ hq hT
        refine (LI.out _ _ hM.out.1).mono ?_
        rintro e u1 ⟨⟨pL, cL, rfl, hI⟩, hb⟩
        have M1 : Hid (Own w u1 w.heap.size ⟨qs, 0, L⟩) := hM.out.grow hb
        have lz : Hid (w.heap.size < u1.heap.size) := blk_lt M1.out.1.blk
        have IL : Hid (IsJ u1 pL L (w.heap.size + 1) u1.heap.size) := IsI.j (fun i hi => by
          obtain ⟨g, e, l1, l2, c⟩ := hI i hi
          have := blk_lt hM.out.1.blk
          exact ⟨g, e, by omega, l2, c⟩)
        clear hb hI hM
        obtain ⟨m, hm⟩ : ∃ m, m = L.length := ⟨_, rfl⟩
        rw [← hm] at lf
        simp only
        rw [← hm]
        have Hm : Hid (m = L.length) := hm
        clear hm
        have M2 : Hid (Own w (u1.alloc (.cells #[] 3)) w.heap.size ⟨qs, 0, L⟩) := M1.out.grow (Go.Joins.below_alloc1 _ _)
        have IL2 : Hid (IsJ (u1.alloc (.cells #[] 3)) pL L (w.heap.size + 1) u1.heap.size) := IL.out.below (Go.Joins.below_alloc1 _ _)
        have OW0 : Hid (OwnI (u1.alloc (.cells #[] 3)) u1.heap.size (.slice (some ⟨u1.heap.size, 0, none⟩) 0 0) (L.take 0)) := OwnI.made u1 (Nat.le_refl _)
        have ML : Hid (u1.heap.size ≤ (u1.alloc (.cells #[] 3)).heap.size) := by show _ ≤ _; rw [World.size_alloc]; omega
        go_wp2_with fail
        go_loopw [9, 71] (fun v x W => ∃ (j : Nat) (S : Qu), j ≤ m ∧ x = .int .i64 j ∧ Hid (Good S) ∧ Hid (S = ⟨qs, 0, rotN L j⟩) ∧ Hid (Own w W w.heap.size S) ∧ Hid (IsJ W pL L (w.heap.size + 1) u1.heap.size) ∧ Hid (OwnI W u1.heap.size v (L.take j)) ∧ Hid (u1.heap.size ≤ W.heap.size)) (fun _ x _ => m - (intOf x).toNat)
        case atStart => exact ⟨0, ⟨qs, 0, L⟩, by omega, rfl, hG, (by show _ = _; rw [rot_zero]), M2, IL2, OW0, ML⟩
        case round =>
          obtain ⟨j, S, hj, rfl, hGj, hSj, hMj, hIj, hOj, hLj⟩ := hrel
          by_cases jlt : j < m
          · have jd : decide ((j : Int) < (m : Int)) = true := by simp; omega
            have mp : 0 < L.length := by rw [← Hm.out]; omega
            have jl : j < L.length := by rw [← Hm.out]; exact jlt
            have NN := NO.out S
            obtain ⟨v1, v2⟩ := rot_now L j mp
            have sl : S.L = rotN L j := by rw [hSj.out]
            rw [sl, v1, v2] at NN
            obtain ⟨x, hx⟩ : ∃ x, x = L[j] := ⟨_, rfl⟩
            have hx2 : L[j % L.length]'(Nat.mod_lt j mp) = x := by rw [hx]; congr 1; exact Nat.mod_eq_of_lt jl
            rw [hx2] at NN
            have NN2 : Hid _ := NN
            have TK : Hid (L.take (j + 1) = L.take j ++ [x]) := by show _ = _; rw [hx]; exact (List.take_append_getElem jl).symm
            have tl : Hid ((L.take j).length = j) := by show _ = _; rw [List.length_take]; omega
            clear NN v1 v2 sl hx hx2
            go_wp2_with fail
            refine (NN2.out _ hMj.out.1).mono ?_
            rintro e U ⟨rfl, hb⟩
            have MU : Hid (Own w (U.alloc (.cells #[.int .i64 x] 3)) w.heap.size S) := (hMj.out.grow hb).grow (Go.Joins.below_alloc1 _ _)
            have IU : Hid (IsJ (U.alloc (.cells #[.int .i64 x] 3)) pL L (w.heap.size + 1) u1.heap.size) := (hIj.out.below hb).below (Go.Joins.below_alloc1 _ _)
            have OU : Hid (OwnI (U.alloc (.cells #[.int .i64 x] 3)) u1.heap.size u9 (L.take j)) := (hOj.out.below hb).below (Go.Joins.below_alloc1 _ _)
            have HZ : Hid (u1.heap.size ≤ (U.alloc (.cells #[.int .i64 x] 3)).heap.size) := by show _ ≤ _; rw [World.size_alloc]; have := hLj.out; have := hb.size; omega
            have CU : (U.alloc (.cells #[.int .i64 x] 3)).cell? ⟨U.heap.size, 0, none⟩ = some (.int .i64 x) := Go.Joins.cell_of_block (own1 U _) 0
            have NW : Hid (∀ j u, ([.int .i64 x] : List Value)[j]? = some u → (U.alloc (.cells #[.int .i64 x] 3)).cell? ((⟨U.heap.size, 0, none⟩ : Addr).add j) = some u) := one_new CU
            have MX : Hid ((L.take j).length + 1 ≤ maxLen) := by show _ ≤ _; unfold maxLen; have := tl.out; omega
            have BY : Hid (((L.take j).length + 1) * 8 ≤ 140737488355328) := by show _ ≤ _; have := tl.out; omega
            clear hb CU hMj hIj hOj hLj
            go_wp2_with (at_builtin; refine wpList_append_own _ rfl _ _ 28 rfl u1.heap.size 3 i0 (.int .i64 0) 1 8 Try.underlying28 hi hz0 hz1 hz2 rfl (by decide) u9 (L.take j).length ((L.take j).map (Value.int .i64)) rfl OU.out ⟨U.heap.size, 0, none⟩ 1 1 [.int .i64 x] rfl rfl NW.out (one_one _) MX.out BY.out HZ.out ?_; intro v' a1 hown hg hnil; have O1 : Hid (OwnI a1 u1.heap.size v' (L.take (j + 1))) := (by show OwnI _ _ _ _; rw [TK.out]; exact OwnI.one hown); have MA : Hid (Own w a1 w.heap.size S) := own_grown MU.out OU.out.base lz.out hg; have IA : Hid (IsJ a1 pL L (w.heap.size + 1) u1.heap.size) := IU.out.grown OU.out.base hg; have LA : Hid (u1.heap.size ≤ a1.heap.size) := Nat.le_trans HZ.out hg.size; clear hown hg hnil OU NW MX BY HZ MU IU)
            have Z0 : Hid (Mid S L q j 0) := by show Mid _ _ _ _ _; rw [hSj.out, HQ.out]; exact mid_zero L q j hq0
            try go_wp2_with fail
            go_loopw [12] (fun x W => ∃ (i : Nat) (S : Qu), i ≤ q ∧ x = .int .i64 i ∧ Hid (Good S) ∧ Hid (Mid S L q j i) ∧ Hid (Own w W w.heap.size S) ∧ Hid (IsJ W pL L (w.heap.size + 1) u1.heap.size) ∧ Hid (OwnI W u1.heap.size v' (L.take (j + 1))) ∧ Hid (u1.heap.size ≤ W.heap.size)) (fun x _ => q - (intOf x).toNat)
            case atStart => exact ⟨0, S, by omega, rfl, hGj, Z0, MA, IA, O1, LA⟩
            case round =>
              obtain ⟨i, S3, hi3, rfl, hG3, hS3, hM3, hI3, hO3, hL3⟩ := hrel
              by_cases ilt : i < q
              · have id : decide ((i : Int) < qs) = true := by rw [HQ.out]; simp; omega
                have G4 : Hid (Good (tckS S3)) := hG3.out.tck
                have YY := TC.out S3 hG3.out
                have ww : IntKind.i64.wrap (qs - 1) = qs - 1 := by rw [IntKind.wrap_i64, HQ.out]; omega
                rcases mid_next mp ilt hS3.out with ⟨c, e1, e2⟩ | ⟨c, e1, e2⟩
                · rw [e1] at YY
                  have YY2 : Hid _ := YY
                  have S4 : Hid (Mid (tckS S3) L q j (i + 1)) := e2
                  have ie : ((i : Int) == qs - 1) = false := by rw [HQ.out]; simp; omega
                  have ie2 : ¬ (i : Int) = qs - 1 := by rw [HQ.out]; omega
                  clear YY e1 e2
                  generalize tckS S3 = Sn at YY2 S4 G4
                  go_wp2_with fail
                  refine (YY2.out _ hM3.out.1).mono ?_
                  rintro e U4 ⟨rfl, h1, h2⟩
                  have M4 : Hid (Own w U4 w.heap.size Sn) := hM3.out.next h1 h2
                  have I4 : Hid (IsJ U4 pL L (w.heap.size + 1) u1.heap.size) := hI3.out.kb h2 (by omega)
                  have O4 : Hid (OwnI U4 u1.heap.size v' (L.take (j + 1))) := hO3.out.kb h2 lz.out
                  have L4 : Hid (u1.heap.size ≤ U4.heap.size) := Nat.le_trans hL3.out h2.size
                  clear h1 h2 hM3 hI3 hO3 hL3
                  go_wp2_with fail
                  go_roundw
                  case rel => exact ⟨i + 1, Sn, by omega, by go_num, G4, S4, M4, I4, O4, L4⟩
                  case measure => simp [intOf]; omega
                · rw [e1] at YY
                  have YY2 : Hid _ := YY
                  have S4 : Hid (Mid (tckS S3) L q j (i + 1)) := e2
                  have ie : ((i : Int) == qs - 1) = true := by rw [HQ.out]; simp; omega
                  clear YY e1 e2
                  generalize tckS S3 = Sn at YY2 S4 G4
                  go_wp2_with fail
                  refine (YY2.out _ hM3.out.1).mono ?_
                  rintro e U4 ⟨rfl, h1, h2⟩
                  have M4 : Hid (Own w U4 w.heap.size Sn) := hM3.out.next h1 h2
                  have I4 : Hid (IsJ U4 pL L (w.heap.size + 1) u1.heap.size) := hI3.out.kb h2 (by omega)
                  have O4 : Hid (OwnI U4 u1.heap.size v' (L.take (j + 1))) := hO3.out.kb h2 lz.out
                  have L4 : Hid (u1.heap.size ≤ U4.heap.size) := Nat.le_trans hL3.out h2.size
                  clear h1 h2 hM3 hI3 hO3 hL3
                  go_wp2_with fail
                  go_roundw
                  case rel => exact ⟨i + 1, Sn, by omega, by go_num, G4, S4, M4, I4, O4, L4⟩
                  case measure => simp [intOf]; omega
              · obtain rfl : i = q := by omega
                have id : decide ((i : Int) < qs) = false := by rw [HQ.out]; simp
                have id2 : ¬ (i : Int) < qs := by rw [HQ.out]; omega
                have S4 : Hid (S3 = ⟨qs, 0, rotN L (j + 1)⟩) := by show _ = _; rw [HQ.out]; exact mid_end hS3.out
                go_wp2_with fail
                go_roundw
                case rel => exact ⟨j + 1, S3, by omega, by go_num, hG3, S4, hM3, hI3, hO3, hL3⟩
                case measure => simp [intOf]; omega
          · obtain rfl : j = m := by omega
            have jd : decide ((j : Int) < (j : Int)) = false := by simp
            obtain ⟨p9, c9, hv9, I9⟩ := hOj.out.read
            have tk : L.take j = L := by rw [Hm.out]; exact List.take_length
            rw [tk] at I9 hv9
            rw [← Hm.out] at hv9
            have J9 : Hid (IsI wr p9 L u1.heap.size) := I9
            subst hv9
            clear tk I9 hOj
            have ss := SA.out p9 pL c9 cL L u1.heap.size (w.heap.size + 1) (by have := Hm.out; omega)
            rw [← Hm.out] at ss
            have SS2 : Hid _ := ss
            clear ss SA LI TC NO
            go_wp2_with fail
            refine (AWH.out _).mono ?_
            rintro e U9 ⟨rfl, hb⟩
            have M9 : Hid (Below w.heap.size w U9) := (hMj.out.grow hb).2.1
            have K9 : Hid (IsI U9 p9 L u1.heap.size) := J9.out.below hb
            have L9 : Hid (IsI U9 pL L (w.heap.size + 1)) := (hIj.out.below hb).i
            clear hb
            go_wp2_with fail
            refine (SS2.out _ K9.out L9.out).mono ?_
            rintro e U8 ⟨rfl, hb⟩
            have M8 : Hid (Below w.heap.size w U8) := below_then M9.out hb
            clear hb
            go_wp2_with fail
            go_ret
            exact ⟨rfl, M8.out⟩
    · have hd : decide ((k : Int) < (n1 : Int)) = false := by simp; omega
      have hd3 : ¬ (k : Int) < (n1 : Int) := by omega
      go_wp2_with fail
      clear AD RM YL TI HA hk hk40 hd3
      obtain ⟨qs, ts, L⟩ := S
      have lf : L.length ≤ 16 := hG.out.few
      have tz : ts = 0 := hT.out
      subst tz
      have hq' : qs = a0 := hQ.out
      subst hq'
      have qq0 : 1 ≤ qs := hG.out.q0
      obtain ⟨q, hq⟩ : ∃ q : Nat, qs = q := ⟨qs.toNat, by omega⟩
      have HQ : Hid (qs = (q : Int)) := hq
      have hq0 : 0 < q := by omega
      have hq20 : q ≤ 20 := by omega
      clear hQ hq hT
      refine (LI.out _ _ hM.out.1).mono ?_
      rintro e u1 ⟨⟨pL, cL, rfl, hI⟩, hb⟩
      have M1 : Hid (Own w u1 w.heap.size ⟨qs, 0, L⟩) := hM.out.grow hb
      have lz : Hid (w.heap.size < u1.heap.size) := blk_lt M1.out.1.blk
      have IL : Hid (IsJ u1 pL L (w.heap.size + 1) u1.heap.size) := IsI.j (fun i hi => by
        obtain ⟨g, e, l1, l2, c⟩ := hI i hi
        have := blk_lt hM.out.1.blk
        exact ⟨g, e, by omega, l2, c⟩)
      clear hb hI hM
      obtain ⟨m, hm⟩ : ∃ m, m = L.length := ⟨_, rfl⟩
      rw [← hm] at lf
      simp only
      rw [← hm]
      have Hm : Hid (m = L.length) := hm
      clear hm
      have M2 : Hid (Own w (u1.alloc (.cells #[] 3)) w.heap.size ⟨qs, 0, L⟩) := M1.out.grow (Go.Joins.below_alloc1 _ _)
      have IL2 : Hid (IsJ (u1.alloc (.cells #[] 3)) pL L (w.heap.size + 1) u1.heap.size) := IL.out.below (Go.Joins.below_alloc1 _ _)
      have OW0 : Hid (OwnI (u1.alloc (.cells #[] 3)) u1.heap.size (.slice (some ⟨u1.heap.size, 0, none⟩) 0 0) (L.take 0)) := OwnI.made u1 (Nat.le_refl _)
      have ML : Hid (u1.heap.size ≤ (u1.alloc (.cells #[] 3)).heap.size) := by show _ ≤ _; rw [World.size_alloc]; omega
      go_wp2_with fail
      go_loopw [9, 71] (fun v x W => ∃ (j : Nat) (S : Qu), j ≤ m ∧ x = .int .i64 j ∧ Hid (Good S) ∧ Hid (S = ⟨qs, 0, rotN L j⟩) ∧ Hid (Own w W w.heap.size S) ∧ Hid (IsJ W pL L (w.heap.size + 1) u1.heap.size) ∧ Hid (OwnI W u1.heap.size v (L.take j)) ∧ Hid (u1.heap.size ≤ W.heap.size)) (fun _ x _ => m - (intOf x).toNat)
      case atStart => exact ⟨0, ⟨qs, 0, L⟩, by omega, rfl, hG, (by show _ = _; rw [rot_zero]), M2, IL2, OW0, ML⟩
      case round =>
        obtain ⟨j, S, hj, rfl, hGj, hSj, hMj, hIj, hOj, hLj⟩ := hrel
        by_cases jlt : j < m
        · have jd : decide ((j : Int) < (m : Int)) = true := by simp; omega
          have mp : 0 < L.length := by rw [← Hm.out]; omega
          have jl : j < L.length := by rw [← Hm.out]; exact jlt
          have NN := NO.out S
          obtain ⟨v1, v2⟩ := rot_now L j mp
          have sl : S.L = rotN L j := by rw [hSj.out]
          rw [sl, v1, v2] at NN
          obtain ⟨x, hx⟩ : ∃ x, x = L[j] := ⟨_, rfl⟩
          have hx2 : L[j % L.length]'(Nat.mod_lt j mp) = x := by rw [hx]; congr 1; exact Nat.mod_eq_of_lt jl
          rw [hx2] at NN
          have NN2 : Hid _ := NN
          have TK : Hid (L.take (j + 1) = L.take j ++ [x]) := by show _ = _; rw [hx]; exact (List.take_append_getElem jl).symm
          have tl : Hid ((L.take j).length = j) := by show _ = _; rw [List.length_take]; omega
          clear NN v1 v2 sl hx hx2
          go_wp2_with fail
          refine (NN2.out _ hMj.out.1).mono ?_
          rintro e U ⟨rfl, hb⟩
          have MU : Hid (Own w (U.alloc (.cells #[.int .i64 x] 3)) w.heap.size S) := (hMj.out.grow hb).grow (Go.Joins.below_alloc1 _ _)
          have IU : Hid (IsJ (U.alloc (.cells #[.int .i64 x] 3)) pL L (w.heap.size + 1) u1.heap.size) := (hIj.out.below hb).below (Go.Joins.below_alloc1 _ _)
          have OU : Hid (OwnI (U.alloc (.cells #[.int .i64 x] 3)) u1.heap.size u9 (L.take j)) := (hOj.out.below hb).below (Go.Joins.below_alloc1 _ _)
          have HZ : Hid (u1.heap.size ≤ (U.alloc (.cells #[.int .i64 x] 3)).heap.size) := by show _ ≤ _; rw [World.size_alloc]; have := hLj.out; have := hb.size; omega
          have CU : (U.alloc (.cells #[.int .i64 x] 3)).cell? ⟨U.heap.size, 0, none⟩ = some (.int .i64 x) := Go.Joins.cell_of_block (own1 U _) 0
          have NW : Hid (∀ j u, ([.int .i64 x] : List Value)[j]? = some u → (U.alloc (.cells #[.int .i64 x] 3)).cell? ((⟨U.heap.size, 0, none⟩ : Addr).add j) = some u) := one_new CU
          have MX : Hid ((L.take j).length + 1 ≤ maxLen) := by show _ ≤ _; unfold maxLen; have := tl.out; omega
          have BY : Hid (((L.take j).length + 1) * 8 ≤ 140737488355328) := by show _ ≤ _; have := tl.out; omega
          clear hb CU hMj hIj hOj hLj
          go_wp2_with (at_builtin; refine wpList_append_own _ rfl _ _ 28 rfl u1.heap.size 3 i0 (.int .i64 0) 1 8 Try.underlying28 hi hz0 hz1 hz2 rfl (by decide) u9 (L.take j).length ((L.take j).map (Value.int .i64)) rfl OU.out ⟨U.heap.size, 0, none⟩ 1 1 [.int .i64 x] rfl rfl NW.out (one_one _) MX.out BY.out HZ.out ?_; intro v' a1 hown hg hnil; have O1 : Hid (OwnI a1 u1.heap.size v' (L.take (j + 1))) := (by show OwnI _ _ _ _; rw [TK.out]; exact OwnI.one hown); have MA : Hid (Own w a1 w.heap.size S) := own_grown MU.out OU.out.base lz.out hg; have IA : Hid (IsJ a1 pL L (w.heap.size + 1) u1.heap.size) := IU.out.grown OU.out.base hg; have LA : Hid (u1.heap.size ≤ a1.heap.size) := Nat.le_trans HZ.out hg.size; clear hown hg hnil OU NW MX BY HZ MU IU)
          have Z0 : Hid (Mid S L q j 0) := by show Mid _ _ _ _ _; rw [hSj.out, HQ.out]; exact mid_zero L q j hq0
          try go_wp2_with fail
          go_loopw [12] (fun x W => ∃ (i : Nat) (S : Qu), i ≤ q ∧ x = .int .i64 i ∧ Hid (Good S) ∧ Hid (Mid S L q j i) ∧ Hid (Own w W w.heap.size S) ∧ Hid (IsJ W pL L (w.heap.size + 1) u1.heap.size) ∧ Hid (OwnI W u1.heap.size v' (L.take (j + 1))) ∧ Hid (u1.heap.size ≤ W.heap.size)) (fun x _ => q - (intOf x).toNat)
          case atStart => exact ⟨0, S, by omega, rfl, hGj, Z0, MA, IA, O1, LA⟩
          case round =>
            obtain ⟨i, S3, hi3, rfl, hG3, hS3, hM3, hI3, hO3, hL3⟩ := hrel
            by_cases ilt : i < q
            · have id : decide ((i : Int) < qs) = true := by rw [HQ.out]; simp; omega
              have G4 : Hid (Good (tckS S3)) := hG3.out.tck
              have YY := TC.out S3 hG3.out
              have ww : IntKind.i64.wrap (qs - 1) = qs - 1 := by rw [IntKind.wrap_i64, HQ.out]; omega
              rcases mid_next mp ilt hS3.out with ⟨c, e1, e2⟩ | ⟨c, e1, e2⟩
              · rw [e1] at YY
                have YY2 : Hid _ := YY
                have S4 : Hid (Mid (tckS S3) L q j (i + 1)) := e2
                have ie : ((i : Int) == qs - 1) = false := by rw [HQ.out]; simp; omega
                have ie2 : ¬ (i : Int) = qs - 1 := by rw [HQ.out]; omega
                clear YY e1 e2
                generalize tckS S3 = Sn at YY2 S4 G4
                go_wp2_with fail
                refine (YY2.out _ hM3.out.1).mono ?_
                rintro e U4 ⟨rfl, h1, h2⟩
                have M4 : Hid (Own w U4 w.heap.size Sn) := hM3.out.next h1 h2
                have I4 : Hid (IsJ U4 pL L (w.heap.size + 1) u1.heap.size) := hI3.out.kb h2 (by omega)
                have O4 : Hid (OwnI U4 u1.heap.size v' (L.take (j + 1))) := hO3.out.kb h2 lz.out
                have L4 : Hid (u1.heap.size ≤ U4.heap.size) := Nat.le_trans hL3.out h2.size
                clear h1 h2 hM3 hI3 hO3 hL3
                go_wp2_with fail
                go_roundw
                case rel => exact ⟨i + 1, Sn, by omega, by go_num, G4, S4, M4, I4, O4, L4⟩
                case measure => simp [intOf]; omega
              · rw [e1] at YY
                have YY2 : Hid _ := YY
                have S4 : Hid (Mid (tckS S3) L q j (i + 1)) := e2
                have ie : ((i : Int) == qs - 1) = true := by rw [HQ.out]; simp; omega
                clear YY e1 e2
                generalize tckS S3 = Sn at YY2 S4 G4
                go_wp2_with fail
                refine (YY2.out _ hM3.out.1).mono ?_
                rintro e U4 ⟨rfl, h1, h2⟩
                have M4 : Hid (Own w U4 w.heap.size Sn) := hM3.out.next h1 h2
                have I4 : Hid (IsJ U4 pL L (w.heap.size + 1) u1.heap.size) := hI3.out.kb h2 (by omega)
                have O4 : Hid (OwnI U4 u1.heap.size v' (L.take (j + 1))) := hO3.out.kb h2 lz.out
                have L4 : Hid (u1.heap.size ≤ U4.heap.size) := Nat.le_trans hL3.out h2.size
                clear h1 h2 hM3 hI3 hO3 hL3
                go_wp2_with fail
                go_roundw
                case rel => exact ⟨i + 1, Sn, by omega, by go_num, G4, S4, M4, I4, O4, L4⟩
                case measure => simp [intOf]; omega
            · obtain rfl : i = q := by omega
              have id : decide ((i : Int) < qs) = false := by rw [HQ.out]; simp
              have id2 : ¬ (i : Int) < qs := by rw [HQ.out]; omega
              have S4 : Hid (S3 = ⟨qs, 0, rotN L (j + 1)⟩) := by show _ = _; rw [HQ.out]; exact mid_end hS3.out
              go_wp2_with fail
              go_roundw
              case rel => exact ⟨j + 1, S3, by omega, by go_num, hG3, S4, hM3, hI3, hO3, hL3⟩
              case measure => simp [intOf]; omega
        · obtain rfl : j = m := by omega
          have jd : decide ((j : Int) < (j : Int)) = false := by simp
          obtain ⟨p9, c9, hv9, I9⟩ := hOj.out.read
          have tk : L.take j = L := by rw [Hm.out]; exact List.take_length
          rw [tk] at I9 hv9
          rw [← Hm.out] at hv9
          have J9 : Hid (IsI wr p9 L u1.heap.size) := I9
          subst hv9
          clear tk I9 hOj
          have ss := SA.out p9 pL c9 cL L u1.heap.size (w.heap.size + 1) (by have := Hm.out; omega)
          rw [← Hm.out] at ss
          have SS2 : Hid _ := ss
          clear ss SA LI TC NO
          go_wp2_with fail
          refine (AWH.out _).mono ?_
          rintro e U9 ⟨rfl, hb⟩
          have M9 : Hid (Below w.heap.size w U9) := (hMj.out.grow hb).2.1
          have K9 : Hid (IsI U9 p9 L u1.heap.size) := J9.out.below hb
          have L9 : Hid (IsI U9 pL L (w.heap.size + 1)) := (hIj.out.below hb).i
          clear hb
          go_wp2_with fail
          refine (SS2.out _ K9.out L9.out).mono ?_
          rintro e U8 ⟨rfl, hb⟩
          have M8 : Hid (Below w.heap.size w U8) := below_then M9.out hb
          clear hb
          go_wp2_with fail
          go_ret
          exact ⟨rfl, M8.out⟩

theorem own : ownKnob Try.prog.godebug = none := by kernel_rfl
theorem laidOut : laidOutB Try.prog = true := by kernel_rfl
set_option maxRecDepth 100000 in
theorem lifted (os : Os) (started : os.Started) (H : Type) (enc : TypeId × Value → H) :
    ReturnsInHanded {} Try.checked os 5 .any (Rows.schedFairSpec.pre6 enc Try.prog Try.f5 Rows.schedFairRow.domain false) (Rows.schedFairSpec.post enc Try.prog Try.f5 false true false false) := by
  refine returnsInHanded_of_change (C := Try.checked) own started (by kernel_rfl) Try.func5
    (ChangeSpec.witness6 (enc := enc) (C := Try.checked) false ⟨#[], #[.int .i64 0, .slice none 0 0], []⟩ 8 (by kernel_rfl) (by kernel_rfl) (by kernel_rfl) (by kernel_rfl)) ?_
  intro W base args ds gs before hval0 hW hcnd _
  have hval : ∀ (j : Nat) t v, Try.f5.params[j]? = some t → args[j]? = some v → Value.okWide Try.prog W .any base t v := hval0
  have hW' := hW
  obtain ⟨p, q, hA0, hV, hbef, hfz, hnd⟩ := hW
  have hA : DataW.TrodAll enc Try.prog W 0 (fun _ => true) true Try.f5.params.toList args.toList ds p := hA0
  have hAk := hA
  have hlt : ∀ x ∈ p, x.block < W.heap.size := fun x hx => hW'.lt x (by rw [hbef]; exact List.mem_append_left _ hx)
  rw [Try.params5] at hA hval
  obtain ⟨v0, vs0, d0, ds0, p0, q0, hargs, rfl, hp0, h0, r0⟩ := trodAll_cons hA
  obtain ⟨v1, vs1, d1, ds1, p1, q1, rfl, rfl, hp1, h1, r1⟩ := trodAll_cons r0
  obtain ⟨rfl, rfl, hpz⟩ := trodAll_nil r1
  obtain rfl : args = #[v0, v1] := by cases args; simp_all
  obtain ⟨rfl, rfl⟩ := trodVars_none hV
  obtain ⟨a0, rfl, _, _, w0⟩ := open_int Try.underlying3 (hval 0 3 v0 rfl rfl) h0
  obtain ⟨p1, n1, c1, A1, rfl, m1, H1⟩ := open_acts (hval 1 22 v1 rfl rfl) h1
  clear hA0 hval0
  refine (walk a0 w0 p1 n1 c1 A1 m1 W H1).mono fun e W' ⟨he, hg⟩ => ?_
  subst he
  exact ⟨_, rfl, ⟨_, _, _, [], p, [], hW', (trodAll_cons_mk (shut_bool Try.underlying4 _) trodAll_mk0), args_stay laidOut hg (by kernel_rfl) hAk hlt, rfl, hg.frame _, fun h => by cases h⟩⟩

theorem over : Rows.schedFairRow.holds Try.pinned (OpenSpec.ofChange Rows.schedFairSpec) :=
  OpenClaim.holds_of_wide 5 Try.f5 rfl rfl rfl rfl rfl rfl rfl ⟨rfl, rfl, rfl, rfl, rfl⟩ rfl rfl rfl rfl rfl (by kernel_rfl) Try.func5 (by kernel_rfl)
    (of_decide_eq_true (by kernel_rfl)) (by unfold Func.isWrapper; first | (rw [if_pos (by decide +kernel)]; kernel_rfl) | (rw [if_neg (by decide +kernel)]; exact ⟨rfl, rfl⟩))
    (fun os started H enc _ => lifted os started H enc)

theorem proved : Rows.SchedFairSaid :=
  over
#print axioms proved
end Go.Proofs.Ytcamghafjgjgdaa.schedFair
