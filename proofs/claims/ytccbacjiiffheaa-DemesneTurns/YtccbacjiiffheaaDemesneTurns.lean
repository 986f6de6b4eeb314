/- For any length of turns, any number of processes and any words: calls that go as words to whose turn it is say what they said, whoever has the turn: Yield is the only one that ends it; turns of at most 20 ticks, at most 8 processes, 40 calls, as the statement itself guards; no condition. -/
import Derived.Test.YtccbacjiiffheaaRows
import Derived.ProofKit
import Derived.OpenShut
import Derived.Carry
import Derived.Test.YtccbacjiiffheaaCU
import Derived.Deep.QuietTactic
import Derived.BigQuiet
namespace Go.Proofs.Ytccbacjiiffheaa.demesneTurns
open Go.ChangeShapes Go.WideShapes Go.ChangeAt Go.RowKit Go.Maps
set_option linter.unusedSimpArgs false
set_option linter.unusedVariables false

set_option maxRecDepth 8000 in
set_option maxHeartbeats 8000000 in
theorem walk (a0 : Int) (w0 : (Lit.int .i64 a0).wf = true) (a1 : Int) (w1 : (Lit.int .i64 a1).wf = true) (p2 : Option Addr) (n2 c2 : Nat) (D2 : Nat → Wd) (m2 : n2 ≤ maxLen) (w : World) (H2 : IsWds w p2 n2 D2) :
    Calls Try.prog 8 #[.int .i64 a0, .int .i64 a1, .slice p2 n2 c2] w fun e w' => e = .returned (.bool true) ∧ Below w.heap.size w w' := by
  have R0 : Hid (∀ W : World, Calls Try.prog 9 #[.agg #[.int .u64 14, .int .u64 0, .int .u64 0, .int .u64 0, .int .u64 0, .int .u64 0]] W fun e w' => e = .returned (.tuple #[.agg #[.int .i64 14, .int .i64 0, .int .i64 0, .bool false, .bool false, .bool false, .int .u64 0, .int .i64 0, .int .u64 0, .int .i64 0, .int .i64 0, .int .i64 0, .int .i64 0], .int .i64 0]) ∧ Below W.heap.size W w') := fun W => read_yes ⟨14, 0, 0, 0, 0, 0⟩ (wf_lit 14 0 0 0 (by omega) (by omega) (by omega) (by omega)) _ says_yield W
  by_cases q0 : a0 < 1 ∨ 1000 < a0
  · have NW : Hid (∀ W : World, Calls Try.prog 15 #[.int .i64 a0] W fun e w' => e = .returned (.tuple #[.pointer none, .int .i64 1]) ∧ w' = W) := fun W => new_no a0 q0 W
    go_enter Try.func8, Try.ntmps8
    go_wp2_with fail
    refine (R0.out _).mono ?_
    rintro e u0 ⟨rfl, hb⟩
    have B0 : Hid (Below w.heap.size w (u0.alloc (.cells #[.int .i64 14, .int .i64 0, .int .i64 0, .bool false, .bool false, .bool false, .int .u64 0, .int .i64 0, .int .u64 0, .int .i64 0, .int .i64 0, .int .i64 0, .int .i64 0] 30))) := below_new hb _
    clear hb
    go_wp2_with fail
    refine (NW.out _).mono ?_
    rintro e u1 ⟨rfl, hu⟩
    rw [hu]
    clear hu
    go_wp2_with fail
    go_ret
    exact ⟨rfl, B0.out⟩
  have NW : Hid (∀ W : World, Calls Try.prog 15 #[.int .i64 a0] W fun e w' => e = .returned (.tuple #[.pointer (some ⟨W.heap.size, 0, none⟩), .int .i64 0]) ∧ Own W w' W.heap.size ⟨a0, 0, []⟩) := fun W => new_ok a0 (by omega) (by omega) W
  by_cases x0 : 20 < a0
  · have dx0 : decide (20 < a0) = true := by simp; omega
    go_enter Try.func8, Try.ntmps8
    go_wp2_with fail
    refine (R0.out _).mono ?_
    rintro e u0 ⟨rfl, hb⟩
    have B0 : Hid (Below w.heap.size w (u0.alloc (.cells #[.int .i64 14, .int .i64 0, .int .i64 0, .bool false, .bool false, .bool false, .int .u64 0, .int .i64 0, .int .u64 0, .int .i64 0, .int .i64 0, .int .i64 0, .int .i64 0] 30))) := below_new hb _
    clear hb
    go_wp2_with fail
    refine (NW.out _).mono ?_
    rintro e u1 ⟨rfl, h0⟩
    have M0 : Hid (Own w u1 (u0.alloc (.cells #[.int .i64 14, .int .i64 0, .int .i64 0, .bool false, .bool false, .bool false, .int .u64 0, .int .i64 0, .int .u64 0, .int .i64 0, .int .i64 0, .int .i64 0, .int .i64 0] 30)).heap.size ⟨a0, 0, []⟩) := ⟨h0.1, below_then B0.out h0.2.1, B0.out.size⟩
    simp only [World.size_alloc] at M0 ⊢
    clear h0 NW B0
    go_wp2_with fail
    go_ret
    exact ⟨rfl, M0.out.2.1⟩
  have dx0 : decide (20 < a0) = false := by simp; omega
  by_cases x1 : a1 < 1
  · have dx1 : decide (a1 < 1) = true := by simp; omega
    go_enter Try.func8, Try.ntmps8
    go_wp2_with fail
    refine (R0.out _).mono ?_
    rintro e u0 ⟨rfl, hb⟩
    have B0 : Hid (Below w.heap.size w (u0.alloc (.cells #[.int .i64 14, .int .i64 0, .int .i64 0, .bool false, .bool false, .bool false, .int .u64 0, .int .i64 0, .int .u64 0, .int .i64 0, .int .i64 0, .int .i64 0, .int .i64 0] 30))) := below_new hb _
    clear hb
    go_wp2_with fail
    refine (NW.out _).mono ?_
    rintro e u1 ⟨rfl, h0⟩
    have M0 : Hid (Own w u1 (u0.alloc (.cells #[.int .i64 14, .int .i64 0, .int .i64 0, .bool false, .bool false, .bool false, .int .u64 0, .int .i64 0, .int .u64 0, .int .i64 0, .int .i64 0, .int .i64 0, .int .i64 0] 30)).heap.size ⟨a0, 0, []⟩) := ⟨h0.1, below_then B0.out h0.2.1, B0.out.size⟩
    simp only [World.size_alloc] at M0 ⊢
    clear h0 NW B0
    go_wp2_with fail
    go_ret
    exact ⟨rfl, M0.out.2.1⟩
  have dx1 : decide (a1 < 1) = false := by simp; omega
  by_cases x2 : 8 < a1
  · have dx2 : decide (8 < a1) = true := by simp; omega
    go_enter Try.func8, Try.ntmps8
    go_wp2_with fail
    refine (R0.out _).mono ?_
    rintro e u0 ⟨rfl, hb⟩
    have B0 : Hid (Below w.heap.size w (u0.alloc (.cells #[.int .i64 14, .int .i64 0, .int .i64 0, .bool false, .bool false, .bool false, .int .u64 0, .int .i64 0, .int .u64 0, .int .i64 0, .int .i64 0, .int .i64 0, .int .i64 0] 30))) := below_new hb _
    clear hb
    go_wp2_with fail
    refine (NW.out _).mono ?_
    rintro e u1 ⟨rfl, h0⟩
    have M0 : Hid (Own w u1 (u0.alloc (.cells #[.int .i64 14, .int .i64 0, .int .i64 0, .bool false, .bool false, .bool false, .int .u64 0, .int .i64 0, .int .u64 0, .int .i64 0, .int .i64 0, .int .i64 0, .int .i64 0] 30)).heap.size ⟨a0, 0, []⟩) := ⟨h0.1, below_then B0.out h0.2.1, B0.out.size⟩
    simp only [World.size_alloc] at M0 ⊢
    clear h0 NW B0
    go_wp2_with fail
    go_ret
    exact ⟨rfl, M0.out.2.1⟩
  have dx2 : decide (8 < a1) = false := by simp; omega
  obtain ⟨n, rfl⟩ : ∃ n : Nat, a1 = n := ⟨a1.toNat, by omega⟩
  have n1 : 1 ≤ n := by omega
  have n8 : n ≤ 8 := by omega
  have mm : (n2 : Int) ≤ 9223372036854775807 := by have : maxLen ≤ 9223372036854775807 := by decide +kernel
                                                   omega
  have HD : Hid (IsWds w p2 n2 D2) := H2
  have GF : Hid (Good ⟨a0, 0, upL 0⟩) := fresh_good a0 (by omega) (by omega)
  have AD : Hid (∀ (b : Nat) (S : Qu), Good S → ∀ p : Int, ∀ W : World, IsQ W b S → Calls Try.prog 16 #[.pointer (some ⟨b, 0, none⟩), .int .i64 p] W fun e w' => e = .returned (.int .i64 (addE S p)) ∧ IsQ w' b (addS S p) ∧ Kb b W w') := fun b S g p W h => add_any b S p g W h
  have YL : Hid (∀ (b : Nat) (S : Qu), ∀ W : World, IsQ W b S → Calls Try.prog 18 #[.pointer (some ⟨b, 0, none⟩)] W fun e w' => e = .returned (.tuple #[]) ∧ IsQ w' b (yldS S) ∧ Kb b W w') := fun b S W h => yld_any b S W h
  have TC : Hid (∀ (b : Nat) (S : Qu), Good S → ∀ W : World, IsQ W b S → Calls Try.prog 19 #[.pointer (some ⟨b, 0, none⟩)] W fun e w' => e = .returned (.bool (tckB S)) ∧ IsQ w' b (tckS S) ∧ Kb b W w') := fun b S g W h => tck_any b S g W h
  have NO : Hid (∀ (b : Nat) (S : Qu), ∀ W : World, IsQ W b S → Calls Try.prog 17 #[.pointer (some ⟨b, 0, none⟩)] W fun e w' => e = .returned (.tuple #[.int .i64 (nowV S.L), .bool (nowB S.L)]) ∧ Below W.heap.size W w') := fun b S W h => now_any b S W h
  have LI : Hid (∀ (b : Nat) (S : Qu), ∀ W : World, IsQ W b S → Calls Try.prog 20 #[.pointer (some ⟨b, 0, none⟩)] W fun e w' => (∃ p c, e = .returned (.slice p S.L.length c) ∧ IsI w' p S.L W.heap.size) ∧ Below W.heap.size W w') := fun b S W h => line_any b S W h
  clear q0 H2
  go_enter Try.func8, Try.ntmps8
  go_wp2_with fail
  refine (R0.out _).mono ?_
  rintro e u0 ⟨rfl, hb⟩
  have B0 : Hid (Below w.heap.size w (u0.alloc (.cells #[.int .i64 14, .int .i64 0, .int .i64 0, .bool false, .bool false, .bool false, .int .u64 0, .int .i64 0, .int .u64 0, .int .i64 0, .int .i64 0, .int .i64 0, .int .i64 0] 30))) := below_new hb _
  clear hb
  go_wp2_with fail
  refine (NW.out _).mono ?_
  rintro e u1 ⟨rfl, h0⟩
  have M0 : Hid (Own w u1 (u0.alloc (.cells #[.int .i64 14, .int .i64 0, .int .i64 0, .bool false, .bool false, .bool false, .int .u64 0, .int .i64 0, .int .u64 0, .int .i64 0, .int .i64 0, .int .i64 0, .int .i64 0] 30)).heap.size ⟨a0, 0, []⟩) := ⟨h0.1, below_then B0.out h0.2.1, B0.out.size⟩
  simp only [World.size_alloc] at M0 ⊢
  clear h0 NW B0
  obtain ⟨b, hbb⟩ : ∃ b, b = u0.heap.size + 1 := ⟨_, rfl⟩
  rw [← hbb] at M0 ⊢
  clear hbb
  go_wp2_with fail
  go_loopw [11] (fun x W => ∃ (k : Nat), k ≤ n ∧ x = .int .i64 k ∧ Hid (Good ⟨a0, 0, upL k⟩) ∧ Hid (Own w W b ⟨a0, 0, upL k⟩)) (fun x _ => n - (intOf x).toNat)
  case atStart => exact ⟨0, by omega, rfl, GF, M0⟩
  case round =>
    obtain ⟨k, hk, rfl, hG, hM⟩ := hrel
    by_cases hlt : k < n
    · have hd : decide ((k : Int) < (n : Int)) = true := by simp; omega
      have ad : Hid _ := AD.out b _ hG.out (k : Int)
      have G1 := hG.out.add (k : Int)
      rw [up_add a0 k (by omega)] at ad G1
      have G2 : Hid (Good ⟨a0, 0, upL (k + 1)⟩) := G1
      clear G1
      go_wp2_with fail
      refine (ad.out _ hM.out.1).mono ?_
      rintro e u2 ⟨rfl, h1, h2⟩
      have M1 : Hid (Own w u2 b ⟨a0, 0, upL (k + 1)⟩) := hM.out.next h1 h2
      clear h1 h2 hM hG
      go_wp2_with fail
      go_roundw
      case rel => exact ⟨k + 1, by omega, by go_num, G2, M1⟩
      case measure => simp [intOf]; omega
    · obtain rfl : k = n := by omega
      have hd : decide ((k : Int) < (k : Int)) = false := by simp
      clear AD
      have RZ : Hid ((Qu.mk a0 0 (upL k)).L = rotN (upL k) 0) := (rot_zero _).symm
      go_wp2_with fail
      go_loopw [12, 13] (fun y x W => ∃ (i t : Nat) (S : Qu), i ≤ n2 ∧ i ≤ 40 ∧ t ≤ i ∧ y = .int .i64 t ∧ x = .int .i64 i ∧ Hid (Good S) ∧ Hid (S.L = rotN (upL k) t) ∧ Hid (Own w W b S)) (fun _ x _ => 41 - (intOf x).toNat)
      case atStart => exact ⟨0, 0, ⟨a0, 0, upL k⟩, by omega, by omega, by omega, rfl, rfl, hG, RZ, hM⟩
      case round =>
        obtain ⟨i, t, S, hi, hi40, hti, rfl, rfl, hGs, hR, hMs⟩ := hrel
        by_cases ilt : i < n2
        · by_cases i40 : i < 40
          · have hd1 : decide ((i : Int) < (n2 : Int)) = true := by simp; omega
            have hd2 : decide ((i : Int) < 40) = true := by simp; omega
            obtain ⟨wfD, bq, oq, rfl, lq, cl⟩ := HD.out i ilt
            have CD : Hid (∀ W : World, Below w.heap.size w W → ∀ j, j < 6 → W.cell? ⟨bq, oq + i * 6 + j, none⟩ = some (.int .u64 ((D2 i).at j))) := fun W h j hj => (World.cell?_of_block (h.block bq lq)).trans (cl j hj)
            clear cl
            generalize D2 i = D at CD wfD
            obtain ⟨x0, x1, x2, x3, x4, x5⟩ := D
            have z0 : wr.cell? ⟨bq, oq + i * 6, none⟩ = some (.int .u64 x0) := CD.out wr hMs.out.2.1 0 (by omega)
            have z1 : wr.cell? ⟨bq, oq + i * 6 + 1, none⟩ = some (.int .u64 x1) := CD.out wr hMs.out.2.1 1 (by omega)
            have z2 : wr.cell? ⟨bq, oq + i * 6 + 2, none⟩ = some (.int .u64 x2) := CD.out wr hMs.out.2.1 2 (by omega)
            have z3 : wr.cell? ⟨bq, oq + i * 6 + 3, none⟩ = some (.int .u64 x3) := CD.out wr hMs.out.2.1 3 (by omega)
            have z4 : wr.cell? ⟨bq, oq + i * 6 + 4, none⟩ = some (.int .u64 x4) := CD.out wr hMs.out.2.1 4 (by omega)
            have z5 : wr.cell? ⟨bq, oq + i * 6 + 5, none⟩ = some (.int .u64 x5) := CD.out wr hMs.out.2.1 5 (by omega)
            have lq2 : bq < wr.heap.size := Nat.lt_of_lt_of_le lq hMs.out.2.1.size
            have NN := NO.out b S
            obtain ⟨v1, v2⟩ := now_up k t (by omega)
            rw [hR.out, v1, v2] at NN
            obtain ⟨r, hr⟩ : ∃ r, r = t % k := ⟨_, rfl⟩
            rw [← hr] at NN
            have tm : ((t : Int)).tmod (k : Int) = (r : Int) := by rw [hr, Int.tmod_eq_emod_of_nonneg (by omega)]; simp
            have NN2 : Hid _ := NN
            clear NN v1 v2 hr
            have k0 : ((k : Int) == 0) = false := by simp; omega
            have k1 : ((k : Int) == -1) = false := by simp
            have k2 : ¬ (k : Int) = 0 := by omega
            have rr : ((r : Int) == (r : Int)) = true := by simp
            by_cases hs : ∃ c, Says ⟨x0, x1, x2, x3, x4, x5⟩ c
            rotate_left
            · have R1 : Hid (∀ W : World, Calls Try.prog 9 #[.agg #[.int .u64 x0, .int .u64 x1, .int .u64 x2, .int .u64 x3, .int .u64 x4, .int .u64 x5]] W fun e w' => e = .returned (.tuple #[.agg #[.int .i64 0, .int .i64 0, .int .i64 0, .bool false, .bool false, .bool false, .int .u64 0, .int .i64 0, .int .u64 0, .int .i64 0, .int .i64 0, .int .i64 0, .int .i64 0], .int .i64 13]) ∧ Below W.heap.size W w') := fun W => read_no _ wfD hs W
              clear hs wfD R0 YL TC NO LI
              go_wp2_with fail
              refine (R1.out _).mono ?_
              rintro e u2 ⟨rfl, hb⟩
              have M1 : Hid (Own w (u2.alloc (.cells #[.int .i64 0, .int .i64 0, .int .i64 0, .bool false, .bool false, .bool false, .int .u64 0, .int .i64 0, .int .u64 0, .int .i64 0, .int .i64 0, .int .i64 0, .int .i64 0] 30)) b S) := (hMs.out.grow hb).grow (Go.Joins.below_alloc1 _ _)
              clear hb hMs
              go_wp2_with fail
              refine (NN2.out _ M1.out.1).mono ?_
              rintro e u3 ⟨rfl, hb⟩
              have M2 : Hid (Own w u3 b S) := M1.out.grow hb
              clear hb M1
              go_wp2_with fail
              go_roundw
              case rel => exact ⟨i + 1, t, S, by omega, by omega, by omega, rfl, by go_num, hGs, hR, M2⟩
              case measure => simp [intOf]; omega
            obtain ⟨c, hs⟩ := hs
            have wfc := says_wf wfD hs
            have sp := says_spell wfD hs
            have wy := fun W => write_yes c wfc (by rw [sp]; exact hs) W
            rw [sp] at wy
            obtain ⟨c0, c1, c2, c3, c4, c5, c6, c7, c8, c9, c10, c11, c12⟩ := c
            have R1 : Hid (∀ W : World, Calls Try.prog 9 #[.agg #[.int .u64 x0, .int .u64 x1, .int .u64 x2, .int .u64 x3, .int .u64 x4, .int .u64 x5]] W fun e w' => e = .returned (.tuple #[.agg #[.int .i64 c0, .int .i64 c1, .int .i64 c2, .bool c3, .bool c4, .bool c5, .int .u64 c6, .int .i64 c7, .int .u64 c8, .int .i64 c9, .int .i64 c10, .int .i64 c11, .int .i64 c12], .int .i64 0]) ∧ Below W.heap.size W w') := fun W => read_yes _ wfD _ hs W
            have WC : Hid (∀ W : World, Calls Try.prog 13 #[.agg #[.int .i64 c0, .int .i64 c1, .int .i64 c2, .bool c3, .bool c4, .bool c5, .int .u64 c6, .int .i64 c7, .int .u64 c8, .int .i64 c9, .int .i64 c10, .int .i64 c11, .int .i64 c12]] W fun e w' => e = .returned (.tuple #[.agg #[.int .u64 x0, .int .u64 x1, .int .u64 x2, .int .u64 x3, .int .u64 x4, .int .u64 x5], .int .i64 0]) ∧ Below W.heap.size W w') := wy
            have NE : ∀ W : World, (binOp .neq 24 (.agg #[.int .u64 x0, .int .u64 x1, .int .u64 x2, .int .u64 x3, .int .u64 x4, .int .u64 x5]) (.agg #[.int .u64 x0, .int .u64 x1, .int .u64 x2, .int .u64 x3, .int .u64 x4, .int .u64 x5])).run Try.prog W = .ok (.bool false) W := fun W => by
              have := neWd ⟨x0, x1, x2, x3, x4, x5⟩ ⟨x0, x1, x2, x3, x4, x5⟩ W
              rw [decide_eq_true rfl] at this
              exact this
            clear hs wfD wfc sp wy R0 NO LI
            by_cases c14 : c0 = 14
            · subst c14
              have Y1 : Hid (Good (yldS S)) := hGs.out.yld
              have Y2 : Hid ((yldS S).L = rotN (upL k) (t + 1)) := by show _ = _; rw [yld_L, hR.out, rot_next]
              have YY : Hid _ := YL.out b S
              clear YL TC
              generalize yldS S = S2 at Y1 Y2 YY
              go_wp2_with fail
              refine (R1.out _).mono ?_
              rintro e u2 ⟨rfl, hb⟩
              have M1 : Hid (Own w (u2.alloc (.cells #[.int .i64 14, .int .i64 c1, .int .i64 c2, .bool c3, .bool c4, .bool c5, .int .u64 c6, .int .i64 c7, .int .u64 c8, .int .i64 c9, .int .i64 c10, .int .i64 c11, .int .i64 c12] 30)) b S) := (hMs.out.grow hb).grow (Go.Joins.below_alloc1 _ _)
              have E1 : Hid (Blk (u2.alloc (.cells #[.int .i64 14, .int .i64 c1, .int .i64 c2, .bool c3, .bool c4, .bool c5, .int .u64 c6, .int .i64 c7, .int .u64 c8, .int .i64 c9, .int .i64 c10, .int .i64 c11, .int .i64 c12] 30)) u2.heap.size [.int .i64 14, .int .i64 c1, .int .i64 c2, .bool c3, .bool c4, .bool c5, .int .u64 c6, .int .i64 c7, .int .u64 c8, .int .i64 c9, .int .i64 c10, .int .i64 c11, .int .i64 c12] 30) := Blk.made u2 _ _
              clear hb hMs
              go_wp2_with fail
              refine (NN2.out _ M1.out.1).mono ?_
              rintro e u3 ⟨rfl, hb⟩
              have M2 : Hid (Own w u3 b S) := M1.out.grow hb
              have E2 : Hid (Blk u3 u2.heap.size [.int .i64 14, .int .i64 c1, .int .i64 c2, .bool c3, .bool c4, .bool c5, .int .u64 c6, .int .i64 c7, .int .u64 c8, .int .i64 c9, .int .i64 c10, .int .i64 c11, .int .i64 c12] 30) := E1.out.below hb
              have l2 : u2.heap.size < u3.heap.size := blk_lt E2.out
              clear hb M1 E1
              have e0 : u3.cell? ⟨u2.heap.size, 0, none⟩ = some (.int .i64 14) := E2.out.cell 0
              have e1 : u3.cell? ⟨u2.heap.size, 1, none⟩ = some (.int .i64 c1) := E2.out.cell 1
              have e2 : u3.cell? ⟨u2.heap.size, 2, none⟩ = some (.int .i64 c2) := E2.out.cell 2
              have e3 : u3.cell? ⟨u2.heap.size, 3, none⟩ = some (.bool c3) := E2.out.cell 3
              have e4 : u3.cell? ⟨u2.heap.size, 4, none⟩ = some (.bool c4) := E2.out.cell 4
              have e5 : u3.cell? ⟨u2.heap.size, 5, none⟩ = some (.bool c5) := E2.out.cell 5
              have e6 : u3.cell? ⟨u2.heap.size, 6, none⟩ = some (.int .u64 c6) := E2.out.cell 6
              have e7 : u3.cell? ⟨u2.heap.size, 7, none⟩ = some (.int .i64 c7) := E2.out.cell 7
              have e8 : u3.cell? ⟨u2.heap.size, 8, none⟩ = some (.int .u64 c8) := E2.out.cell 8
              have e9 : u3.cell? ⟨u2.heap.size, 9, none⟩ = some (.int .i64 c9) := E2.out.cell 9
              have e10 : u3.cell? ⟨u2.heap.size, 10, none⟩ = some (.int .i64 c10) := E2.out.cell 10
              have e11 : u3.cell? ⟨u2.heap.size, 11, none⟩ = some (.int .i64 c11) := E2.out.cell 11
              have e12 : u3.cell? ⟨u2.heap.size, 12, none⟩ = some (.int .i64 c12) := E2.out.cell 12
              go_wp2_with fail
              refine (WC.out _).mono ?_
              rintro e u4 ⟨rfl, hb⟩
              have M3 : Hid (Own w (u4.alloc (.cells #[.int .u64 x0, .int .u64 x1, .int .u64 x2, .int .u64 x3, .int .u64 x4, .int .u64 x5] 24)) b S) := (M2.out.grow hb).grow (Go.Joins.below_alloc1 _ _)
              have E3 : Hid (Blk (u4.alloc (.cells #[.int .u64 x0, .int .u64 x1, .int .u64 x2, .int .u64 x3, .int .u64 x4, .int .u64 x5] 24)) u2.heap.size [.int .i64 14, .int .i64 c1, .int .i64 c2, .bool c3, .bool c4, .bool c5, .int .u64 c6, .int .i64 c7, .int .u64 c8, .int .i64 c9, .int .i64 c10, .int .i64 c11, .int .i64 c12] 30) := (E2.out.below hb).below (Go.Joins.below_alloc1 _ _)
              have X3 : Hid (Blk (u4.alloc (.cells #[.int .u64 x0, .int .u64 x1, .int .u64 x2, .int .u64 x3, .int .u64 x4, .int .u64 x5] 24)) u4.heap.size [.int .u64 x0, .int .u64 x1, .int .u64 x2, .int .u64 x3, .int .u64 x4, .int .u64 x5] 24) := Blk.made u4 _ _
              clear hb M2 E2
              go_upto_region 21 with fail
              generalize u4.alloc (.cells #[.int .u64 x0, .int .u64 x1, .int .u64 x2, .int .u64 x3, .int .u64 x4, .int .u64 x5] 24) = V at M3 E3 X3 ⊢
              have s0 : V.cell? ⟨u2.heap.size, 0, none⟩ = some (.int .i64 14) := E3.out.cell 0
              have lv : u2.heap.size < V.heap.size := blk_lt E3.out
              have lx : u4.heap.size < V.heap.size := blk_lt X3.out
              have lqv : bq < V.heap.size := Nat.lt_of_lt_of_le lq M3.out.2.1.size
              have a0 : V.cell? ⟨u4.heap.size, 0, none⟩ = some (.int .u64 x0) := X3.out.cell 0
              have y0 : V.cell? ⟨bq, oq + i * 6, none⟩ = some (.int .u64 x0) := CD.out V M3.out.2.1 0 (by omega)
              have a1 : V.cell? ⟨u4.heap.size, 1, none⟩ = some (.int .u64 x1) := X3.out.cell 1
              have y1 : V.cell? ⟨bq, oq + i * 6 + 1, none⟩ = some (.int .u64 x1) := CD.out V M3.out.2.1 1 (by omega)
              have a2 : V.cell? ⟨u4.heap.size, 2, none⟩ = some (.int .u64 x2) := X3.out.cell 2
              have y2 : V.cell? ⟨bq, oq + i * 6 + 2, none⟩ = some (.int .u64 x2) := CD.out V M3.out.2.1 2 (by omega)
              have a3 : V.cell? ⟨u4.heap.size, 3, none⟩ = some (.int .u64 x3) := X3.out.cell 3
              have y3 : V.cell? ⟨bq, oq + i * 6 + 3, none⟩ = some (.int .u64 x3) := CD.out V M3.out.2.1 3 (by omega)
              have a4 : V.cell? ⟨u4.heap.size, 4, none⟩ = some (.int .u64 x4) := X3.out.cell 4
              have y4 : V.cell? ⟨bq, oq + i * 6 + 4, none⟩ = some (.int .u64 x4) := CD.out V M3.out.2.1 4 (by omega)
              have a5 : V.cell? ⟨u4.heap.size, 5, none⟩ = some (.int .u64 x5) := X3.out.cell 5
              have y5 : V.cell? ⟨bq, oq + i * 6 + 5, none⟩ = some (.int .u64 x5) := CD.out V M3.out.2.1 5 (by omega)
              go_quiet (fail)
              go_wp2_with fail
              refine (YY.out (V.drewN nq) (M3.out.1.kept (fun _ => rfl))).mono ?_
              rintro e u5 ⟨rfl, h1, h2⟩
              have M5 : Hid (Own w u5 b S2) := M3.out.next h1 ⟨h2.os, h2.tape, h2.output, h2.size, h2.block⟩
              clear h1 h2 M3
              go_wp2_with fail
              go_roundw
              case rel => exact ⟨i + 1, t + 1, S2, by omega, by omega, by omega, by go_num, by go_num, Y1, Y2, M5⟩
              case measure => simp [intOf]; omega
            · have c14' : (c0 == 14) = false := by simp [c14]
              have T1 : Hid (Good (tckS S)) := hGs.out.tck
              have TL := tck_L S
              have TT := TC.out b S hGs.out
              clear YL TC
              generalize tckS S = S2 at T1 TL TT
              cases htb : tckB S with
              | false =>
                rw [htb] at TL TT
                have Y2 : Hid (S2.L = rotN (upL k) t) := by show _ = _; rw [TL]; exact hR.out
                have YY : Hid _ := TT
                clear TL TT htb
                go_wp2_with fail
                refine (R1.out _).mono ?_
                rintro e u2 ⟨rfl, hb⟩
                have M1 : Hid (Own w (u2.alloc (.cells #[.int .i64 c0, .int .i64 c1, .int .i64 c2, .bool c3, .bool c4, .bool c5, .int .u64 c6, .int .i64 c7, .int .u64 c8, .int .i64 c9, .int .i64 c10, .int .i64 c11, .int .i64 c12] 30)) b S) := (hMs.out.grow hb).grow (Go.Joins.below_alloc1 _ _)
                have E1 : Hid (Blk (u2.alloc (.cells #[.int .i64 c0, .int .i64 c1, .int .i64 c2, .bool c3, .bool c4, .bool c5, .int .u64 c6, .int .i64 c7, .int .u64 c8, .int .i64 c9, .int .i64 c10, .int .i64 c11, .int .i64 c12] 30)) u2.heap.size [.int .i64 c0, .int .i64 c1, .int .i64 c2, .bool c3, .bool c4, .bool c5, .int .u64 c6, .int .i64 c7, .int .u64 c8, .int .i64 c9, .int .i64 c10, .int .i64 c11, .int .i64 c12] 30) := Blk.made u2 _ _
                clear hb hMs
                go_wp2_with fail
                refine (NN2.out _ M1.out.1).mono ?_
                rintro e u3 ⟨rfl, hb⟩
                have M2 : Hid (Own w u3 b S) := M1.out.grow hb
                have E2 : Hid (Blk u3 u2.heap.size [.int .i64 c0, .int .i64 c1, .int .i64 c2, .bool c3, .bool c4, .bool c5, .int .u64 c6, .int .i64 c7, .int .u64 c8, .int .i64 c9, .int .i64 c10, .int .i64 c11, .int .i64 c12] 30) := E1.out.below hb
                have l2 : u2.heap.size < u3.heap.size := blk_lt E2.out
                clear hb M1 E1
                have e0 : u3.cell? ⟨u2.heap.size, 0, none⟩ = some (.int .i64 c0) := E2.out.cell 0
                have e1 : u3.cell? ⟨u2.heap.size, 1, none⟩ = some (.int .i64 c1) := E2.out.cell 1
                have e2 : u3.cell? ⟨u2.heap.size, 2, none⟩ = some (.int .i64 c2) := E2.out.cell 2
                have e3 : u3.cell? ⟨u2.heap.size, 3, none⟩ = some (.bool c3) := E2.out.cell 3
                have e4 : u3.cell? ⟨u2.heap.size, 4, none⟩ = some (.bool c4) := E2.out.cell 4
                have e5 : u3.cell? ⟨u2.heap.size, 5, none⟩ = some (.bool c5) := E2.out.cell 5
                have e6 : u3.cell? ⟨u2.heap.size, 6, none⟩ = some (.int .u64 c6) := E2.out.cell 6
                have e7 : u3.cell? ⟨u2.heap.size, 7, none⟩ = some (.int .i64 c7) := E2.out.cell 7
                have e8 : u3.cell? ⟨u2.heap.size, 8, none⟩ = some (.int .u64 c8) := E2.out.cell 8
                have e9 : u3.cell? ⟨u2.heap.size, 9, none⟩ = some (.int .i64 c9) := E2.out.cell 9
                have e10 : u3.cell? ⟨u2.heap.size, 10, none⟩ = some (.int .i64 c10) := E2.out.cell 10
                have e11 : u3.cell? ⟨u2.heap.size, 11, none⟩ = some (.int .i64 c11) := E2.out.cell 11
                have e12 : u3.cell? ⟨u2.heap.size, 12, none⟩ = some (.int .i64 c12) := E2.out.cell 12
                go_wp2_with fail
                refine (WC.out _).mono ?_
                rintro e u4 ⟨rfl, hb⟩
                have M3 : Hid (Own w (u4.alloc (.cells #[.int .u64 x0, .int .u64 x1, .int .u64 x2, .int .u64 x3, .int .u64 x4, .int .u64 x5] 24)) b S) := (M2.out.grow hb).grow (Go.Joins.below_alloc1 _ _)
                have E3 : Hid (Blk (u4.alloc (.cells #[.int .u64 x0, .int .u64 x1, .int .u64 x2, .int .u64 x3, .int .u64 x4, .int .u64 x5] 24)) u2.heap.size [.int .i64 c0, .int .i64 c1, .int .i64 c2, .bool c3, .bool c4, .bool c5, .int .u64 c6, .int .i64 c7, .int .u64 c8, .int .i64 c9, .int .i64 c10, .int .i64 c11, .int .i64 c12] 30) := (E2.out.below hb).below (Go.Joins.below_alloc1 _ _)
                have X3 : Hid (Blk (u4.alloc (.cells #[.int .u64 x0, .int .u64 x1, .int .u64 x2, .int .u64 x3, .int .u64 x4, .int .u64 x5] 24)) u4.heap.size [.int .u64 x0, .int .u64 x1, .int .u64 x2, .int .u64 x3, .int .u64 x4, .int .u64 x5] 24) := Blk.made u4 _ _
                clear hb M2 E2
                go_upto_region 21 with fail
                generalize u4.alloc (.cells #[.int .u64 x0, .int .u64 x1, .int .u64 x2, .int .u64 x3, .int .u64 x4, .int .u64 x5] 24) = V at M3 E3 X3 ⊢
                have s0 : V.cell? ⟨u2.heap.size, 0, none⟩ = some (.int .i64 c0) := E3.out.cell 0
                have lv : u2.heap.size < V.heap.size := blk_lt E3.out
                have lx : u4.heap.size < V.heap.size := blk_lt X3.out
                have lqv : bq < V.heap.size := Nat.lt_of_lt_of_le lq M3.out.2.1.size
                have a0 : V.cell? ⟨u4.heap.size, 0, none⟩ = some (.int .u64 x0) := X3.out.cell 0
                have y0 : V.cell? ⟨bq, oq + i * 6, none⟩ = some (.int .u64 x0) := CD.out V M3.out.2.1 0 (by omega)
                have a1 : V.cell? ⟨u4.heap.size, 1, none⟩ = some (.int .u64 x1) := X3.out.cell 1
                have y1 : V.cell? ⟨bq, oq + i * 6 + 1, none⟩ = some (.int .u64 x1) := CD.out V M3.out.2.1 1 (by omega)
                have a2 : V.cell? ⟨u4.heap.size, 2, none⟩ = some (.int .u64 x2) := X3.out.cell 2
                have y2 : V.cell? ⟨bq, oq + i * 6 + 2, none⟩ = some (.int .u64 x2) := CD.out V M3.out.2.1 2 (by omega)
                have a3 : V.cell? ⟨u4.heap.size, 3, none⟩ = some (.int .u64 x3) := X3.out.cell 3
                have y3 : V.cell? ⟨bq, oq + i * 6 + 3, none⟩ = some (.int .u64 x3) := CD.out V M3.out.2.1 3 (by omega)
                have a4 : V.cell? ⟨u4.heap.size, 4, none⟩ = some (.int .u64 x4) := X3.out.cell 4
                have y4 : V.cell? ⟨bq, oq + i * 6 + 4, none⟩ = some (.int .u64 x4) := CD.out V M3.out.2.1 4 (by omega)
                have a5 : V.cell? ⟨u4.heap.size, 5, none⟩ = some (.int .u64 x5) := X3.out.cell 5
                have y5 : V.cell? ⟨bq, oq + i * 6 + 5, none⟩ = some (.int .u64 x5) := CD.out V M3.out.2.1 5 (by omega)
                go_quiet (fail)
                go_wp2_with fail
                refine (YY.out (V.drewN nq) (M3.out.1.kept (fun _ => rfl))).mono ?_
                rintro e u5 ⟨rfl, h1, h2⟩
                have M5 : Hid (Own w u5 b S2) := M3.out.next h1 ⟨h2.os, h2.tape, h2.output, h2.size, h2.block⟩
                clear h1 h2 M3
                go_wp2_with fail
                go_roundw
                case rel => exact ⟨i + 1, t, S2, by omega, by omega, by omega, rfl, by go_num, T1, Y2, M5⟩
                case measure => simp [intOf]; omega
              | true =>
                rw [htb] at TL TT
                have Y2 : Hid (S2.L = rotN (upL k) (t + 1)) := by show _ = _; rw [TL]; simp only [if_true]; rw [hR.out, rot_next]
                have YY : Hid _ := TT
                clear TL TT htb
                go_wp2_with fail
                refine (R1.out _).mono ?_
                rintro e u2 ⟨rfl, hb⟩
                have M1 : Hid (Own w (u2.alloc (.cells #[.int .i64 c0, .int .i64 c1, .int .i64 c2, .bool c3, .bool c4, .bool c5, .int .u64 c6, .int .i64 c7, .int .u64 c8, .int .i64 c9, .int .i64 c10, .int .i64 c11, .int .i64 c12] 30)) b S) := (hMs.out.grow hb).grow (Go.Joins.below_alloc1 _ _)
                have E1 : Hid (Blk (u2.alloc (.cells #[.int .i64 c0, .int .i64 c1, .int .i64 c2, .bool c3, .bool c4, .bool c5, .int .u64 c6, .int .i64 c7, .int .u64 c8, .int .i64 c9, .int .i64 c10, .int .i64 c11, .int .i64 c12] 30)) u2.heap.size [.int .i64 c0, .int .i64 c1, .int .i64 c2, .bool c3, .bool c4, .bool c5, .int .u64 c6, .int .i64 c7, .int .u64 c8, .int .i64 c9, .int .i64 c10, .int .i64 c11, .int .i64 c12] 30) := Blk.made u2 _ _
                clear hb hMs
                go_wp2_with fail
                refine (NN2.out _ M1.out.1).mono ?_
                rintro e u3 ⟨rfl, hb⟩
                have M2 : Hid (Own w u3 b S) := M1.out.grow hb
                have E2 : Hid (Blk u3 u2.heap.size [.int .i64 c0, .int .i64 c1, .int .i64 c2, .bool c3, .bool c4, .bool c5, .int .u64 c6, .int .i64 c7, .int .u64 c8, .int .i64 c9, .int .i64 c10, .int .i64 c11, .int .i64 c12] 30) := E1.out.below hb
                have l2 : u2.heap.size < u3.heap.size := blk_lt E2.out
                clear hb M1 E1
                have e0 : u3.cell? ⟨u2.heap.size, 0, none⟩ = some (.int .i64 c0) := E2.out.cell 0
                have e1 : u3.cell? ⟨u2.heap.size, 1, none⟩ = some (.int .i64 c1) := E2.out.cell 1
                have e2 : u3.cell? ⟨u2.heap.size, 2, none⟩ = some (.int .i64 c2) := E2.out.cell 2
                have e3 : u3.cell? ⟨u2.heap.size, 3, none⟩ = some (.bool c3) := E2.out.cell 3
                have e4 : u3.cell? ⟨u2.heap.size, 4, none⟩ = some (.bool c4) := E2.out.cell 4
                have e5 : u3.cell? ⟨u2.heap.size, 5, none⟩ = some (.bool c5) := E2.out.cell 5
                have e6 : u3.cell? ⟨u2.heap.size, 6, none⟩ = some (.int .u64 c6) := E2.out.cell 6
                have e7 : u3.cell? ⟨u2.heap.size, 7, none⟩ = some (.int .i64 c7) := E2.out.cell 7
                have e8 : u3.cell? ⟨u2.heap.size, 8, none⟩ = some (.int .u64 c8) := E2.out.cell 8
                have e9 : u3.cell? ⟨u2.heap.size, 9, none⟩ = some (.int .i64 c9) := E2.out.cell 9
                have e10 : u3.cell? ⟨u2.heap.size, 10, none⟩ = some (.int .i64 c10) := E2.out.cell 10
                have e11 : u3.cell? ⟨u2.heap.size, 11, none⟩ = some (.int .i64 c11) := E2.out.cell 11
                have e12 : u3.cell? ⟨u2.heap.size, 12, none⟩ = some (.int .i64 c12) := E2.out.cell 12
                go_wp2_with fail
                refine (WC.out _).mono ?_
                rintro e u4 ⟨rfl, hb⟩
                have M3 : Hid (Own w (u4.alloc (.cells #[.int .u64 x0, .int .u64 x1, .int .u64 x2, .int .u64 x3, .int .u64 x4, .int .u64 x5] 24)) b S) := (M2.out.grow hb).grow (Go.Joins.below_alloc1 _ _)
                have E3 : Hid (Blk (u4.alloc (.cells #[.int .u64 x0, .int .u64 x1, .int .u64 x2, .int .u64 x3, .int .u64 x4, .int .u64 x5] 24)) u2.heap.size [.int .i64 c0, .int .i64 c1, .int .i64 c2, .bool c3, .bool c4, .bool c5, .int .u64 c6, .int .i64 c7, .int .u64 c8, .int .i64 c9, .int .i64 c10, .int .i64 c11, .int .i64 c12] 30) := (E2.out.below hb).below (Go.Joins.below_alloc1 _ _)
                have X3 : Hid (Blk (u4.alloc (.cells #[.int .u64 x0, .int .u64 x1, .int .u64 x2, .int .u64 x3, .int .u64 x4, .int .u64 x5] 24)) u4.heap.size [.int .u64 x0, .int .u64 x1, .int .u64 x2, .int .u64 x3, .int .u64 x4, .int .u64 x5] 24) := Blk.made u4 _ _
                clear hb M2 E2
                go_upto_region 21 with fail
                generalize u4.alloc (.cells #[.int .u64 x0, .int .u64 x1, .int .u64 x2, .int .u64 x3, .int .u64 x4, .int .u64 x5] 24) = V at M3 E3 X3 ⊢
                have s0 : V.cell? ⟨u2.heap.size, 0, none⟩ = some (.int .i64 c0) := E3.out.cell 0
                have lv : u2.heap.size < V.heap.size := blk_lt E3.out
                have lx : u4.heap.size < V.heap.size := blk_lt X3.out
                have lqv : bq < V.heap.size := Nat.lt_of_lt_of_le lq M3.out.2.1.size
                have a0 : V.cell? ⟨u4.heap.size, 0, none⟩ = some (.int .u64 x0) := X3.out.cell 0
                have y0 : V.cell? ⟨bq, oq + i * 6, none⟩ = some (.int .u64 x0) := CD.out V M3.out.2.1 0 (by omega)
                have a1 : V.cell? ⟨u4.heap.size, 1, none⟩ = some (.int .u64 x1) := X3.out.cell 1
                have y1 : V.cell? ⟨bq, oq + i * 6 + 1, none⟩ = some (.int .u64 x1) := CD.out V M3.out.2.1 1 (by omega)
                have a2 : V.cell? ⟨u4.heap.size, 2, none⟩ = some (.int .u64 x2) := X3.out.cell 2
                have y2 : V.cell? ⟨bq, oq + i * 6 + 2, none⟩ = some (.int .u64 x2) := CD.out V M3.out.2.1 2 (by omega)
                have a3 : V.cell? ⟨u4.heap.size, 3, none⟩ = some (.int .u64 x3) := X3.out.cell 3
                have y3 : V.cell? ⟨bq, oq + i * 6 + 3, none⟩ = some (.int .u64 x3) := CD.out V M3.out.2.1 3 (by omega)
                have a4 : V.cell? ⟨u4.heap.size, 4, none⟩ = some (.int .u64 x4) := X3.out.cell 4
                have y4 : V.cell? ⟨bq, oq + i * 6 + 4, none⟩ = some (.int .u64 x4) := CD.out V M3.out.2.1 4 (by omega)
                have a5 : V.cell? ⟨u4.heap.size, 5, none⟩ = some (.int .u64 x5) := X3.out.cell 5
                have y5 : V.cell? ⟨bq, oq + i * 6 + 5, none⟩ = some (.int .u64 x5) := CD.out V M3.out.2.1 5 (by omega)
                go_quiet (fail)
                go_wp2_with fail
                refine (YY.out (V.drewN nq) (M3.out.1.kept (fun _ => rfl))).mono ?_
                rintro e u5 ⟨rfl, h1, h2⟩
                have M5 : Hid (Own w u5 b S2) := M3.out.next h1 ⟨h2.os, h2.tape, h2.output, h2.size, h2.block⟩
                clear h1 h2 M3
                go_wp2_with fail
                go_roundw
                case rel => exact ⟨i + 1, t + 1, S2, by omega, by omega, by omega, by go_num, by go_num, T1, Y2, M5⟩
                case measure => simp [intOf]; omega
          · have hd1 : decide ((i : Int) < (n2 : Int)) = true := by simp; omega
            have hd2 : decide ((i : Int) < 40) = false := by simp; omega
            have hd3 : ¬ (i : Int) < 40 := by omega
            go_wp2_with fail
            have LL := LI.out b S
            have ll : S.L.length = k := by rw [hR.out, rot_len, up_len]
            rw [ll] at LL
            have LL2 : Hid _ := LL
            clear LL ll
            have kk : ((k : Int) == (k : Int)) = true := by simp
            refine (LL2.out _ hMs.out.1).mono ?_
            rintro e u8 ⟨⟨p8, c8, rfl, _⟩, hb⟩
            have B9 : Hid (Below w.heap.size w u8) := below_then hMs.out.2.1 hb
            clear hb
            go_wp2_with fail
            go_ret
            exact ⟨rfl, B9.out⟩
        · have hd1 : decide ((i : Int) < (n2 : Int)) = false := by simp; omega
          have hd3 : ¬ (i : Int) < (n2 : Int) := by omega
          go_wp2_with fail
          have LL := LI.out b S
          have ll : S.L.length = k := by rw [hR.out, rot_len, up_len]
          rw [ll] at LL
          have LL2 : Hid _ := LL
          clear LL ll
          have kk : ((k : Int) == (k : Int)) = true := by simp
          refine (LL2.out _ hMs.out.1).mono ?_
          rintro e u8 ⟨⟨p8, c8, rfl, _⟩, hb⟩
          have B9 : Hid (Below w.heap.size w u8) := below_then hMs.out.2.1 hb
          clear hb
          go_wp2_with fail
          go_ret
          exact ⟨rfl, B9.out⟩

theorem own : ownKnob Try.prog.godebug = none := by kernel_rfl
theorem laidOut : laidOutB Try.prog = true := by kernel_rfl
set_option maxRecDepth 100000 in
theorem lifted (os : Os) (started : os.Started) (H : Type) (enc : TypeId × Value → H) :
    ReturnsInHanded {} Try.checked os 8 .any (Rows.demesneTurnsSpec.pre6 enc Try.prog Try.f8 Rows.demesneTurnsRow.domain false) (Rows.demesneTurnsSpec.post enc Try.prog Try.f8 false true false false) := by
  refine returnsInHanded_of_change (C := Try.checked) own started (by kernel_rfl) Try.func8
    (ChangeSpec.witness6 (enc := enc) (C := Try.checked) false ⟨#[], #[.int .i64 0, .int .i64 0, .slice none 0 0], []⟩ 8 (by kernel_rfl) (by kernel_rfl) (by kernel_rfl) (by kernel_rfl)) ?_
  intro W base args ds gs before hval0 hW hcnd _
  have hval : ∀ (j : Nat) t v, Try.f8.params[j]? = some t → args[j]? = some v → Value.okWide Try.prog W .any base t v := hval0
  have hW' := hW
  obtain ⟨p, q, hA0, hV, hbef, hfz, hnd⟩ := hW
  have hA : DataW.TrodAll enc Try.prog W 0 (fun _ => true) true Try.f8.params.toList args.toList ds p := hA0
  have hAk := hA
  have hlt : ∀ x ∈ p, x.block < W.heap.size := fun x hx => hW'.lt x (by rw [hbef]; exact List.mem_append_left _ hx)
  rw [Try.params8] at hA hval
  obtain ⟨v0, vs0, d0, ds0, p0, q0, hargs, rfl, hp0, h0, r0⟩ := trodAll_cons hA
  obtain ⟨v1, vs1, d1, ds1, p1, q1, rfl, rfl, hp1, h1, r1⟩ := trodAll_cons r0
  obtain ⟨v2, vs2, d2, ds2, p2, q2, rfl, rfl, hp2, h2, r2⟩ := trodAll_cons r1
  obtain ⟨rfl, rfl, hpz⟩ := trodAll_nil r2
  obtain rfl : args = #[v0, v1, v2] := by cases args; simp_all
  obtain ⟨rfl, rfl⟩ := trodVars_none hV
  obtain ⟨a0, rfl, _, _, w0⟩ := open_int Try.underlying3 (hval 0 3 v0 rfl rfl) h0
  obtain ⟨a1, rfl, _, _, w1⟩ := open_int Try.underlying3 (hval 1 3 v1 rfl rfl) h1
  obtain ⟨p2, n2, c2, D2, rfl, m2, H2⟩ := open_wds (hval 2 49 v2 rfl rfl) h2
  clear hA0 hval0
  refine (walk a0 w0 a1 w1 p2 n2 c2 D2 m2 W H2).mono fun e W' ⟨he, hg⟩ => ?_
  subst he
  exact ⟨_, rfl, ⟨_, _, _, [], p, [], hW', (trodAll_cons_mk (shut_bool Try.underlying4 _) trodAll_mk0), args_stay laidOut hg (by kernel_rfl) hAk hlt, rfl, hg.frame _, fun h => by cases h⟩⟩

theorem over : Rows.demesneTurnsRow.holds Try.pinned (OpenSpec.ofChange Rows.demesneTurnsSpec) :=
  OpenClaim.holds_of_wide 8 Try.f8 rfl rfl rfl rfl rfl rfl rfl ⟨rfl, rfl, rfl, rfl, rfl⟩ rfl rfl rfl rfl rfl (by kernel_rfl) Try.func8 (by kernel_rfl)
    (of_decide_eq_true (by kernel_rfl)) (by unfold Func.isWrapper; first | (rw [if_pos (by decide +kernel)]; kernel_rfl) | (rw [if_neg (by decide +kernel)]; exact ⟨rfl, rfl⟩))
    (fun os started H enc _ => lifted os started H enc)

theorem proved : Rows.DemesneTurnsSaid :=
  over
#print axioms proved
end Go.Proofs.Ytccbacjiiffheaa.demesneTurns
