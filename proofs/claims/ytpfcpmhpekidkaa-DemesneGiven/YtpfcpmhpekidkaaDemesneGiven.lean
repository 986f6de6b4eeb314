/- For any bytes, any number of frames, any kernel's range and any number lent: the frames that Frames answers of (at most 1400 of) the bytes are given one by one, each once, as long as root or child may have one; of at most 300 frames; no condition. -/
import Derived.Test.YtpfcpmhpekidkaaRows
import Derived.ProofKit
import Derived.OpenShut
import Derived.Carry
import Derived.Test.YtpfcpmhpekidkaaGV
namespace Go.Proofs.Ytpfcpmhpekidkaa.demesneGiven
open Go.ChangeShapes Go.WideShapes Go.ChangeAt Go.RowKit Go.Maps
set_option linter.unusedSimpArgs false
set_option linter.unusedVariables false
open Go.Proofs.Ytpfcpmhpekidkaa.Bm

set_option maxRecDepth 8000 in
set_option maxHeartbeats 16000000 in
theorem walk (p0 : Option Addr) (n0 c0 : Nat) (B0 : Nat → Int) (m0 : n0 ≤ maxLen) (l0 : n0 ≤ c0) (a1 : Int) (w1 : (Lit.int .i64 a1).wf = true) (a2a a2b : Int) (w2a : (Lit.int .i64 a2a).wf = true) (w2b : (Lit.int .i64 a2b).wf = true) (a3 : Int) (w3 : (Lit.int .i64 a3).wf = true) (w : World) (H0 : IsByts w p0 n0 B0) :
    Calls Try.prog 4 #[.slice p0 n0 c0, .int .i64 a1, .agg #[.int .i64 a2a, .int .i64 a2b], .int .i64 a3] w fun e w' => e = .returned (.bool true) ∧ Below w.heap.size w w' := by
  obtain ⟨S0, Y0⟩ := byts_src H0
  have NB : Hid (Calls Try.prog 10 #[.slice (some ⟨w.heap.size + 1, 0, none⟩) 1 1] ((w.alloc (.cells #[.int .i64 a2a, .int .i64 a2b] 30)).alloc (.cells #[.int .i64 1, .int .i64 8] 30)) fun e w' => ∃ b, e = .returned (.tuple #[.pointer (some ⟨b, 0, none⟩), .int .i64 0]) ∧ (Calls Try.prog 11 #[.pointer (some ⟨b, 0, none⟩)] w' fun e w'' => e = .returned (.int .i64 7) ∧ w'' = w') ∧ Below ((w.alloc (.cells #[.int .i64 a2a, .int .i64 a2b] 30)).alloc (.cells #[.int .i64 1, .int .i64 8] 30)).heap.size ((w.alloc (.cells #[.int .i64 a2a, .int .i64 a2b] 30)).alloc (.cells #[.int .i64 1, .int .i64 8] 30)) w') := by
    have q := Gv.new_one (w.alloc (.cells #[.int .i64 a2a, .int .i64 a2b] 30)).heap.size ((w.alloc (.cells #[.int .i64 a2a, .int .i64 a2b] 30)).alloc (.cells #[.int .i64 1, .int .i64 8] 30)) (Gv.rgs_one _ _ _)
    rw [show (w.alloc (.cells #[.int .i64 a2a, .int .i64 a2b] 30)).heap.size = w.heap.size + 1 from World.size_alloc _ _] at q
    exact q
  have C0 : Hid (∀ W, Below w.heap.size w W → _) := fun W hW => cut_any p0 n0 c0 ((List.range n0).map B0) (by simp) l0 W (S0.below hW)
  have HY : Hid (Byt (((List.range n0).map B0).take 1400)) := fun x hx => Y0 x (List.mem_of_mem_take hx)
  generalize (List.range n0).map B0 = L0 at C0 HY
  have KB : Hid (Blk ((w.alloc (.cells #[.int .i64 a2a, .int .i64 a2b] 30)).alloc (.cells #[.int .i64 1, .int .i64 8] 30)) w.heap.size [.int .i64 a2a, .int .i64 a2b] 30 ∧ Below w.heap.size w ((w.alloc (.cells #[.int .i64 a2a, .int .i64 a2b] 30)).alloc (.cells #[.int .i64 1, .int .i64 8] 30))) := ⟨(Blk.made w [.int .i64 a2a, .int .i64 a2b] 30).below (Go.Joins.below_alloc1 _ _), below_then (Go.Joins.below_alloc1 _ _) (Go.Joins.below_alloc1 _ _)⟩
  clear H0 S0 Y0
  go_enter Try.func4, Try.ntmps4
  go_wp2_with fail
  refine Calls.mono NB.out ?_
  rintro e w1 ⟨b1, rfl, FC1, hb1⟩
  have HF1 : Hid (Calls Try.prog 11 #[.pointer (some ⟨b1, 0, none⟩)] w1 fun e w'' => e = .returned (.int .i64 7) ∧ w'' = w1) := FC1
  have BX1 : Hid (Blk w1 w.heap.size [.int .i64 a2a, .int .i64 a2b] 30) := KB.out.1.below hb1
  have BW1 : Hid (Below w.heap.size w w1) := below_then KB.out.2 hb1
  clear FC1 hb1 NB KB
  go_wp2_with fail
  refine Calls.mono HF1.out ?_
  rintro e w1' ⟨rfl, rfl⟩
  clear HF1
  go_wp2_with fail
  refine Calls.mono (C0.out w1' BW1.out) ?_
  rintro e w2 ⟨g0, k0, rfl, O0, hb⟩
  have BX2 : Hid (Blk w2 w.heap.size [.int .i64 a2a, .int .i64 a2b] 30) := BX1.out.below hb
  have BW2 : Hid (Below w.heap.size w w2) := below_then BW1.out hb
  obtain ⟨L, hLL⟩ : ∃ L, L0.take 1400 = L := ⟨_, rfl⟩
  rw [hLL] at O0 HY ⊢
  obtain ⟨n, hn⟩ : ∃ n, L.length = n := ⟨_, rfl⟩
  have HN : Hid (n = L.length) := hn.symm
  rw [hn] at O0 ⊢
  have FC : Hid _ := frames_own_z g0 n k0 _ L HN.out HY.out a1 a2a a2b w2 O0
  clear O0 hb C0 hLL hn BX1 BW1
  have z0 : w2.cell? ⟨w.heap.size, 0, none⟩ = some (.int .i64 a2a) := BX2.out.cell 0
  have z1 : w2.cell? ⟨w.heap.size, 1, none⟩ = some (.int .i64 a2b) := BX2.out.cell 1
  go_wp2_with fail
  refine Calls.mono FC.out ?_
  rintro e w3 ⟨v7, z, M, rfl, ⟨R7, A7⟩, fz, m9, hb⟩
  clear z0 z1
  have BX3 : Hid (Blk w3 w.heap.size [.int .i64 a2a, .int .i64 a2b] 30) := BX2.out.below hb
  have BW3 : Hid (Below w.heap.size w w3) := below_then BW2.out hb
  have RM3 : Hid (RL w3 0 v7 M) := R7.low (Nat.zero_le _)
  have HA7 : Hid (At0 v7) := A7
  have HFZ : Hid (FZ (BL L) n a1 (a2a, a2b) z M ∧ M.length ≤ 5000) := ⟨fz, m9⟩
  have HBB : Hid (∀ i, 0 ≤ BL L i ∧ BL L i < 256) := bl_bd HY.out
  clear R7 A7 fz m9 hb BX2 BW2 FC
  by_cases cz : z = 0
  rotate_left
  · have e1 : (z != 0) = true := by simp [cz]
    have e2 : (z == 0) = false := by simp [cz]
    obtain rfl : M = [] := HFZ.out.1.none cz
    obtain ⟨p7, c7, hv7, _, _, _⟩ := RM3.out.form
    have hv7 : v7 = .slice p7 0 c7 := hv7
    subst hv7
    go_wp2_with fail
    go_ret
    exact ⟨rfl, BW3.out⟩
  subst cz
  have FB := Gv.fz_bounds HFZ.out.1 HBB.out
  have HFB : Hid ((∀ x, Has M x → 0 ≤ x ∧ x < a1 ∧ ¬ (a2a ≤ x ∧ x < a2b)) ∧ Bm.Can M ∧ M ≠ []) := FB
  clear FB
  obtain ⟨g, cm, hv, hR⟩ := Gv.rgs_of RM3.out HA7.out HFB.out.2.2
  obtain ⟨m, hm⟩ : ∃ m, M.length = m := ⟨_, rfl⟩
  have HM : Hid (M.length = m ∧ m ≤ 5000) := ⟨hm, by rw [← hm]; exact HFZ.out.2⟩
  rw [hm] at hv hR
  subst hv
  have HR : Hid (Bd.Rgs w3 g m (Gv.rg M)) := hR
  clear hm hR HA7 HBB HFZ
  by_cases cf : 300 < a1
  · have e1 : decide ((300 : Int) < a1) = true := by simp [cf]
    go_wp2_with fail
    go_ret
    exact ⟨rfl, BW3.out⟩
  have e1 : decide ((300 : Int) < a1) = false := by simp; omega
  by_cases c64 : 64 < m
  · have NC : Hid _ := Bd.new_big g m cm c64 w3
    have e3 : decide ((64 : Int) < (m : Int)) = true := by simp; omega
    go_wp2_with fail
    refine Calls.mono NC.out ?_
    rintro e w4 ⟨rfl, rfl⟩
    go_wp2_with fail
    go_ret
    exact ⟨rfl, BW3.out⟩
  have FO : Bd.Form (Gv.rg M) m := by
    rw [← HM.out.1]
    exact Gv.form_can HFB.out.2.1 (fun x hx => ⟨(HFB.out.1 x hx).1, (HFB.out.1 x hx).2.1⟩) (by omega)
  have NC : Hid _ := Bd.new_ok g m cm (by omega) (Gv.rg M) w3 HR.out FO
  obtain ⟨C, hC⟩ : ∃ C : Int, C = (Bd.cnt (fun j : Nat => Has M j) 1048576 : Nat) := ⟨_, rfl⟩
  have HRU : Hid (Bd.RU (Gv.rg M) m = fun j : Nat => Has M j) := by
    show _ = _
    rw [← HM.out.1]
    funext x; exact propext (Gv.ru_has x)
  have C300 : 0 ≤ C ∧ C ≤ 300 := by
    rw [hC]
    have := Gv.cnt_bound (F := fun j : Nat => Has M j) (b := 300) (fun i hi => by have := (HFB.out.1 i hi).2.1; omega) 1048576
    omega
  have HC : Hid (C = (Bd.cnt (fun j : Nat => Has M j) 1048576 : Nat)) := hC
  have HEN : Hid ((Bd.endAt (Gv.rg M) m).toNat ≤ 300) := by
    have := Gv.end_le HFB.out.2.1 (fun x hx => ⟨(HFB.out.1 x hx).1, (HFB.out.1 x hx).2.1⟩) HFB.out.2.2
    rw [HM.out.1] at this
    show _ ≤ _
    omega
  clear FO hC
  go_wp2_with fail
  refine Calls.mono NC.out ?_
  rintro e w4 ⟨b, rfl, hB, hb4⟩
  have HB4 : Hid (Bd.Bu (fun j => j < w3.heap.size) w4 b 300 (fun j : Nat => Has M j) Bd.noneF) := by
    rw [HRU.out] at hB
    exact hB.mono HEN.out
  have hB4 : Hid (Below w3.heap.size w3 w4) := hb4
  have FC : Hid (∀ W', Bd.Bu (fun j => j < w3.heap.size) W' b 300 (fun j : Nat => Has M j) Bd.noneF → Calls Try.prog 11 #[.pointer (some ⟨b, 0, none⟩)] W' fun e w' => e = .returned (.int .i64 C) ∧ w' = W') := fun W' h => by
    have r := h.free
    rw [← HC.out] at r
    exact r
  clear hB hb4 NC HEN
  go_wp2_with fail
  refine Calls.mono (FC.out w4 HB4.out) ?_
  rintro e w4' ⟨rfl, rfl⟩
  obtain ⟨c0', c3⟩ := C300
  have QC1 : Hid _ := Qu.new_ok C c0' (by omega) w4'
  go_wp2_with fail
  refine Calls.mono QC1.out ?_
  rintro e v5 ⟨rfl, ⟨hT, hb5, _⟩⟩
  obtain ⟨tb, htb⟩ : ∃ tb, tb = w4'.heap.size := ⟨_, rfl⟩
  rw [← htb] at hT ⊢
  have LT : Hid (w3.heap.size ≤ tb) := by show _ ≤ _; rw [htb]; exact hB4.out.size
  have HT5 : Hid (Qu.IsTree v5 tb (Gv.tT C 0 0 0 false)) := by rw [← Gv.root_is]; exact hT
  have HB5 : Hid (Bd.Bu (fun j => j < w3.heap.size ∨ j = tb) v5 b 300 (fun j : Nat => Has M j) Bd.noneF) := (HB4.out.next hb5.size (fun j hj _ => hb5.block j hj)).less (fun j hj => by
    rcases hj with h | h
    · exact Or.inl h
    · right; have := hT.2.2; omega)
  have HB5' : Hid (Bd.Bu (fun j => j < w3.heap.size) v5 b 300 (fun j : Nat => Has M j) Bd.noneF) := HB5.out.less (fun j h => Or.inl h)
  have BW5 : Hid (Below w3.heap.size w3 v5) := hB4.out.trans (hb5.mono hB4.out.size)
  have OKT : Hid (Qu.OkT (Gv.tT C 0 0 0 false)) := Gv.tT_ok (by omega) (by omega) (by omega) (by omega) (by omega) (by omega) (by omega) (by omega)
  clear hT hb5 htb HB4 hB4 QC1
  have RM := RM3
  have BX := BX3
  have BW := BW3
  by_cases cl : 0 ≤ a3 ∧ a3 ≤ C
  · obtain ⟨cl0, cl1⟩ := cl
    have CC : Hid (Calls Try.prog 13 #[.pointer (some ⟨tb, 0, none⟩), .int .i64 0, .int .i64 a3] v5 fun e w' => e = .returned (.tuple #[.int .i64 1, .int .i64 0]) ∧ Qu.IsTree w' tb (Gv.tT C a3 0 0 true) ∧ v5.grownBy w' (some tb)) := by
      have r := Qu.child_any tb _ OKT.out 0 a3 v5 HT5.out
      obtain ⟨q1, q2, q3⟩ := Gv.child_yes cl0 cl1
      rw [q1, q2, q3] at r
      exact r
    go_wp2_with fail
    refine Calls.mono CC.out ?_
    rintro e w7 ⟨rfl, hT7, hg⟩
    have HT7 : Hid (Qu.IsTree w7 tb (Gv.tT C a3 0 0 true)) := hT7
    have HB7 : Hid (Bd.Bu (fun j => j < w3.heap.size ∨ j = tb) w7 b 300 (fun j : Nat => Has M j) Bd.noneF) := (HB5.out.next hg.size (fun j hj nz => hg.block j hj (fun e => nz (Or.inr (by have := Option.some.inj e; omega))))).less (fun j h => Or.inl h)
    have BW7 : Hid (Below w3.heap.size w3 w7) := BW5.out.trans ⟨hg.os, hg.tape, hg.output, hg.size, fun j hj => hg.block j (Nat.lt_of_lt_of_le hj BW5.out.size) (fun e => by have := LT.out; have := Option.some.inj e; omega)⟩
    clear hT7 hg CC HT5 HB5 HB5' BW5 OKT
    have J0 : Hid (∃ (Fc : Nat → Prop) (G : Int → Option Int) (n0 n1 : Int), (0 ≤ n0 ∧ 0 ≤ n1 ∧ (0 : Int) = n0 + n1 ∧ (0 : Int) ≤ (0 : Nat) ∧ n0 + a3 ≤ C ∧ n1 ≤ a3) ∧ Bd.Bu (fun j => j < w3.heap.size ∨ j = tb) w7 b (300 + 20 * (0 : Nat)) Fc G ∧ Qu.IsTree w7 tb (Gv.tT C a3 n0 n1 true) ∧ (∀ x, Fc x → Bm.Has M x) ∧ (0 : Int) + (Bd.cnt Fc 1048576 : Int) = C ∧ (∀ x : Int, (G x).isSome = true ↔ ∃ j : Nat, x = (j : Int) ∧ Bm.Has M j ∧ ¬ Fc j) ∧ Below w3.heap.size w3 w7) := by
      refine ⟨_, Bd.noneF, 0, 0, ⟨by omega, by omega, by omega, by omega, by omega, by omega⟩, HB7.out, HT7.out, fun x hx => hx, ?_, fun x => ⟨(fun h => by cases h), fun ⟨j, _, h1, h2⟩ => absurd h1 h2⟩, BW7.out⟩
      have := HC.out; omega
    have HB8 : Hid (Bd.Bu (fun j => j < w3.heap.size) w7 b 300 (fun j : Nat => Has M j) Bd.noneF) := HB7.out.less (fun j h => Or.inl h)
    clear HB7 HT7 BW7
    have g1 : decide ((0 : Int) ≤ a3) = true := by simp [cl0]
    have g2 : decide (a3 ≤ C) = true := by simp [cl1]
    go_wp2_with fail
    refine Calls.mono (FC.out w7 HB8.out) ?_
    rintro e w8 ⟨rfl, rfl⟩
    clear FC HB8
    go_wp2_with fail
    go_loopw [19, 20, 21, 22, 23] (fun vn vi _ _ _ W => ∃ (i : Nat) (n : Int), i ≤ 310 ∧ (0 ≤ n ∧ n ≤ (i : Int)) ∧ vi = .int .i64 i ∧ vn = .int .i64 n ∧ Hid (∃ (Fc : Nat → Prop) (G : Int → Option Int) (n0 n1 : Int), (0 ≤ n0 ∧ 0 ≤ n1 ∧ n = n0 + n1 ∧ n ≤ i ∧ n0 + a3 ≤ C ∧ n1 ≤ a3) ∧ Bd.Bu (fun j => j < w3.heap.size ∨ j = tb) W b (300 + 20 * i) Fc G ∧ Qu.IsTree W tb (Gv.tT C a3 n0 n1 true) ∧ (∀ x, Fc x → Bm.Has M x) ∧ n + (Bd.cnt Fc 1048576 : Int) = C ∧ (∀ x : Int, (G x).isSome = true ↔ ∃ j : Nat, x = (j : Int) ∧ Bm.Has M j ∧ ¬ Fc j) ∧ Below w3.heap.size w3 W)) (fun _ vi _ _ _ _ => 310 - (Go.RowKit.intOf vi).toNat)
    case atStart => exact ⟨0, 0, by omega, ⟨by omega, by omega⟩, rfl, rfl, J0⟩
    case round =>
      clear J0
      obtain ⟨i, n, hi, ⟨n0', n1'⟩, rfl, rfl, hI⟩ := hrel
      by_cases ci : i < 310
      rotate_left
      · obtain rfl : i = 310 := by omega
        rw [show ((310 : Nat) : Int) = (310 : Int) from rfl]
        as_aux_lemma =>
          obtain ⟨Fc, G, n0, n1, ⟨k0, k1, k2, k3, k4, k5⟩, hB, hT, hF, hc, hG, hb⟩ := hI.out
          have GC : Hid (Calls Try.prog 17 #[.pointer (some ⟨b, 0, none⟩)] wr fun e w' => ∃ p c, ∃ l : Nat, e = .returned (.slice p l c) ∧ (l : Int) = n ∧ Below wr.heap.size wr w') := by
            refine (hB.given (by omega)).mono ?_
            rintro e w' ⟨v, L, he, hA, hM, hO, hb2⟩
            obtain ⟨p, c, hv⟩ : ∃ p c, v = .slice p L.length c := by
              obtain ⟨_, ⟨hv, h0⟩ | ⟨g, cap, cur, hv, _⟩⟩ := hO
              · exact ⟨none, 0, by rw [hv, h0]⟩
              · exact ⟨_, _, hv⟩
            refine ⟨p, c, L.length, by rw [he, hv], ?_, hb2⟩
            have e2 : L.length = Bd.cnt (fun j : Nat => Bm.Has M j ∧ ¬ Fc j) 1048576 := Gv.cnt_keys (fun x hx => by have := (HFB.out.1 x hx.1).2.1; omega) hA (fun x => by
              rw [hM, hG])
            have e3 := Bd.cnt_sub (fun j : Nat => Bm.Has M j) Fc hF 1048576
            have e4 := HC.out
            rw [e2]
            omega
          have RC : Hid (∀ W', Below wr.heap.size wr W' → Calls Try.prog 18 #[.pointer (some ⟨tb, 0, none⟩), .int .i64 0] W' fun e w' => e = .returned (.int .i64 (C - n0 - a3)) ∧ Below W'.heap.size W' w') := fun W' hb' => by
            have r := Qu.room_any tb _ (Gv.tT_ok      (by omega) (by omega) (by omega) (by omega) (by omega) (by omega) (by omega) (by omega)) 0 W' (hT.below hb')
            rw [Gv.getN0, Gv.tT0] at r
            exact r
          have FC : Hid (∀ W', Below wr.heap.size wr W' → Calls Try.prog 11 #[.pointer (some ⟨b, 0, none⟩)] W' fun e w' => e = .returned (.int .i64 (C - n)) ∧ w' = W') := fun W' hb' => by
            have r := (hB.below hb').free
            rw [show (Bd.cnt Fc 1048576 : Int) = C - n by omega] at r
            exact r
          have HBW : Hid (Below w3.heap.size w3 wr) := hb
          have e1 : decide ((0 : Int) ≤ C - n0 - a3) = true := by simp; omega
          have e2 : decide (C - n0 - a3 ≤ C - n) = true := by simp; omega
          clear hB hT hF hc hG hb hI k0 k1 k2 k3 k4 k5
          generalize C - n0 - a3 = rm at *
          generalize C - n = fr at *
          go_wp2_with fail
          refine Calls.mono GC.out ?_
          rintro e u1 ⟨p, c, l, rfl, hl, hu1⟩
          have B1 : Hid (Below wr.heap.size wr u1) := hu1
          have e3 : ((l : Int) == n) = true := by simp [hl]
          clear hu1 GC
          subst hl
          go_wp2_with fail
          refine Calls.mono (RC.out u1 B1.out) ?_
          rintro e u2 ⟨rfl, hu2⟩
          have B2 : Hid (Below wr.heap.size wr u2) := below_then B1.out hu2
          clear hu2
          go_wp2_with fail
          refine Calls.mono (FC.out u2 B2.out) ?_
          rintro e u3 ⟨rfl, rfl⟩
          go_wp2_with fail
          refine Calls.mono (RC.out u3 B2.out) ?_
          rintro e u4 ⟨rfl, hu4⟩
          have B4 : Hid (Below w.heap.size w u4) := below_then BW.out (HBW.out.trans ((below_then B2.out hu4).mono HBW.out.size))
          clear hu4
          go_wp2_with fail
          go_ret
          exact ⟨rfl, B4.out⟩
      have di : decide ((i : Int) < 310) = true := by simp; omega
      rcases (show i % 2 = 0 ∨ i % 2 = 1 by omega) with pi | pi
      · have tm : (i : Int).tmod 2 = 0 := by rw [show (2 : Int) = ((2 : Nat) : Int) from rfl, ← Int.ofNat_tmod, pi]; rfl
        clear pi
        as_aux_lemma =>
          obtain ⟨Fc, G, n0, n1, ⟨k0, k1, k2, k3, k4, k5⟩, hB, hT, hF, hc, hG, hb⟩ := hI.out
          by_cases cr : C - n0 - a3 < 1
          · have CH : Hid (Calls Try.prog 14 #[.pointer (some ⟨tb, 0, none⟩), .int .i64 0, .int .i64 1] wr fun e w' => e = .returned (.int .i64 8) ∧ (∃ (Fc : Nat → Prop) (G : Int → Option Int) (n0 n1 : Int), (0 ≤ n0 ∧ 0 ≤ n1 ∧ n = n0 + n1 ∧ n ≤ (i + 1) ∧ n0 + a3 ≤ C ∧ n1 ≤ a3) ∧ Bd.Bu (fun j => j < w3.heap.size ∨ j = tb) w' b (300 + 20 * (i + 1)) Fc G ∧ Qu.IsTree w' tb (Gv.tT C a3 n0 n1 true) ∧ (∀ x, Fc x → Bm.Has M x) ∧ n + (Bd.cnt Fc 1048576 : Int) = C ∧ (∀ x : Int, (G x).isSome = true ↔ ∃ j : Nat, x = (j : Int) ∧ Bm.Has M j ∧ ¬ Fc j) ∧ Below w3.heap.size w3 w')) := by
              have OKT : Qu.OkT (Gv.tT C a3 n0 n1 true) := Gv.tT_ok (by omega) (by omega) (by omega) (by omega) (by omega) (by omega) (by omega) (by omega)
              refine (Qu.charge_any tb _ OKT 0 1 wr hT).mono ?_
              rintro e w' ⟨he, hT2, hg⟩
              rw [Gv.may0 _ _ _ _ _ _ (by omega), if_pos cr] at he
              rw [Gv.charge0_no cr] at hT2
              refine ⟨he, Fc, G, n0, n1, ⟨k0, k1, k2, by omega, k4, k5⟩, ((hB.next hg.size (fun j hj nz => hg.block j hj (fun e => nz (Or.inr (by have := Option.some.inj e; omega))))).less (fun j h => Or.inl h)).mono (by omega), hT2, hF, hc, hG, ?_⟩
              exact hb.trans ⟨hg.os, hg.tape, hg.output, hg.size, fun j hj => hg.block j (Nat.lt_of_lt_of_le hj hb.size) (fun e => by have := LT.out; have := Option.some.inj e; omega)⟩
            clear hB hT hF hc hG hb hI k0 k1 k2 k3 k4 k5 cr
            go_wp2_with fail
            refine Calls.mono CH.out ?_
            rintro e u1 ⟨rfl, hI2⟩
            have HI2 : Hid (∃ (Fc : Nat → Prop) (G : Int → Option Int) (n0 n1 : Int), (0 ≤ n0 ∧ 0 ≤ n1 ∧ n = n0 + n1 ∧ n ≤ (i + 1) ∧ n0 + a3 ≤ C ∧ n1 ≤ a3) ∧ Bd.Bu (fun j => j < w3.heap.size ∨ j = tb) u1 b (300 + 20 * (i + 1)) Fc G ∧ Qu.IsTree u1 tb (Gv.tT C a3 n0 n1 true) ∧ (∀ x, Fc x → Bm.Has M x) ∧ n + (Bd.cnt Fc 1048576 : Int) = C ∧ (∀ x : Int, (G x).isSome = true ↔ ∃ j : Nat, x = (j : Int) ∧ Bm.Has M j ∧ ¬ Fc j) ∧ Below w3.heap.size w3 u1) := hI2
            clear hI2 CH
            go_wp2_with fail
            go_roundw
            case rel => exact ⟨i + 1, n, by omega, ⟨by omega, by omega⟩, by go_num, rfl, HI2⟩
            case measure => simp [Go.RowKit.intOf]; omega
          have CH : Hid (Calls Try.prog 14 #[.pointer (some ⟨tb, 0, none⟩), .int .i64 0, .int .i64 1] wr fun e u1 => e = .returned (.int .i64 0) ∧ (∃ (Fc : Nat → Prop) (G : Int → Option Int) (n0 n1 : Int), (0 ≤ (n0 + 1) ∧ 0 ≤ n1 ∧ n + 1 = (n0 + 1) + n1 ∧ n + 1 ≤ i + 1 ∧ (n0 + 1) + a3 ≤ C ∧ n1 ≤ a3) ∧ 0 < Bd.cnt Fc 1048576 ∧ Bd.Bu (fun j => j < w3.heap.size ∨ j = tb) u1 b (300 + 20 * i) Fc G ∧ Qu.IsTree u1 tb (Gv.tT C a3 (n0 + 1) n1 true) ∧ (∀ x, Fc x → Bm.Has M x) ∧ n + (Bd.cnt Fc 1048576 : Int) = C ∧ (∀ x : Int, (G x).isSome = true ↔ ∃ j : Nat, x = (j : Int) ∧ Bm.Has M j ∧ ¬ Fc j) ∧ Below w3.heap.size w3 u1)) := by
            have OKT : Qu.OkT (Gv.tT C a3 n0 n1 true) := Gv.tT_ok (by omega) (by omega) (by omega) (by omega) (by omega) (by omega) (by omega) (by omega)
            refine (Qu.charge_any tb _ OKT 0 1 wr hT).mono ?_
            rintro e w' ⟨he, hT2, hg⟩
            rw [Gv.may0 _ _ _ _ _ _ (by omega), if_neg cr] at he
            rw [Gv.charge0 cr] at hT2
            refine ⟨he, Fc, G, n0, n1, ⟨by omega, by omega, by omega, by omega, by omega, by omega⟩, by omega, ((hB.next hg.size (fun j hj nz => hg.block j hj (fun e => nz (Or.inr (by have := Option.some.inj e; omega))))).less (fun j h => Or.inl h)).mono (by omega), hT2, hF, hc, hG, ?_⟩
            exact hb.trans ⟨hg.os, hg.tape, hg.output, hg.size, fun j hj => hg.block j (Nat.lt_of_lt_of_le hj hb.size) (fun e => by have := LT.out; have := Option.some.inj e; omega)⟩
          clear hB hT hF hc hG hb hI k0 k1 k2 k3 k4 k5 cr
          go_wp2_with fail
          refine Calls.mono CH.out ?_
          rintro e u1 ⟨rfl, hI2⟩
          have HI2 : Hid (∃ (Fc : Nat → Prop) (G : Int → Option Int) (n0 n1 : Int), (0 ≤ (n0 + 1) ∧ 0 ≤ n1 ∧ n + 1 = (n0 + 1) + n1 ∧ n + 1 ≤ i + 1 ∧ (n0 + 1) + a3 ≤ C ∧ n1 ≤ a3) ∧ 0 < Bd.cnt Fc 1048576 ∧ Bd.Bu (fun j => j < w3.heap.size ∨ j = tb) u1 b (300 + 20 * i) Fc G ∧ Qu.IsTree u1 tb (Gv.tT C a3 (n0 + 1) n1 true) ∧ (∀ x, Fc x → Bm.Has M x) ∧ n + (Bd.cnt Fc 1048576 : Int) = C ∧ (∀ x : Int, (G x).isSome = true ↔ ∃ j : Nat, x = (j : Int) ∧ Bm.Has M j ∧ ¬ Fc j) ∧ Below w3.heap.size w3 u1) := hI2
          clear hI2 CH
          have TC : Hid (Calls Try.prog 15 #[.pointer (some ⟨b, 0, none⟩), .int .i64 0] u1 fun e w' => ∃ a : Nat, e = .returned (.tuple #[.int .i64 a, .int .i64 0]) ∧ Bm.Has M a ∧ (∃ (Fc : Nat → Prop) (G : Int → Option Int) (n0 n1 : Int), (0 ≤ n0 ∧ 0 ≤ n1 ∧ (n + 1) = n0 + n1 ∧ (n + 1) ≤ (i + 1) ∧ n0 + a3 ≤ C ∧ n1 ≤ a3) ∧ Bd.Bu (fun j => j < w3.heap.size ∨ j = tb) w' b (300 + 20 * (i + 1)) Fc G ∧ Qu.IsTree w' tb (Gv.tT C a3 n0 n1 true) ∧ (∀ x, Fc x → Bm.Has M x) ∧ (n + 1) + (Bd.cnt Fc 1048576 : Int) = C ∧ (∀ x : Int, (G x).isSome = true ↔ ∃ j : Nat, x = (j : Int) ∧ Bm.Has M j ∧ ¬ Fc j) ∧ Below w3.heap.size w3 w')) := by
            obtain ⟨Fc, G, n0, n1, nm, cp, hB, hT, hF, hc, hG, hb⟩ := HI2.out
            refine (hB.take 0 (by omega) (by omega)).mono ?_
            rintro e w' (⟨_, _, h⟩ | ⟨p, f, q, d, he, T, hB2, kf⟩)
            · exfalso
              obtain ⟨x, hx⟩ := Gv.cnt_some (F := Fc) (n := 1048576) (by omega)
              obtain ⟨k, q, hk, hcn⟩ := Gv.cn_some hx
              exact h k q (Nat.zero_le _) hk hcn
            · have Fp : Fc p := T.all p (by simp)
              have Rp := hF p Fp
              have e1 : ((p * 2 ^ 0 : Nat) : Int) = (p : Int) := by simp
              rw [e1] at he hB2
              have cn : Bd.cnt (fun i => Fc i ∧ ¬ i / 2 ^ 0 = p) 1048576 + 2 ^ 0 = Bd.cnt Fc 1048576 := by
                have e := Bd.cnt_sub Fc (fun i => i / 2 ^ 0 = p) (fun i hi => T.all i hi) 1048576
                rw [Bd.cnt_blk (by have := (HFB.out.1 p Rp).2.1; simp; omega)] at e
                exact e
              have cn' : (Bd.cnt (fun i => Fc i ∧ ¬ i / 2 ^ 0 = p) 1048576 : Int) + 1 = Bd.cnt Fc 1048576 := by
                rw [← cn]; simp
              refine ⟨p, he, Rp, _, _, (n0 + 1), n1, nm, hB2.mono (by omega), Gv.tree_block hT kf.size (kf.block tb hT.2.2 (fun h => h (Or.inr rfl))), fun x hx => hF x hx.1, by omega, fun x => ?_, ?_⟩
              · by_cases c : x = (p : Int)
                · subst c
                  rw [Bd.set_same]
                  exact ⟨fun _ => ⟨p, rfl, Rp, fun h => h.2 (by simp)⟩, fun _ => rfl⟩
                · rw [Bd.set_other _ _ _ _ c, hG]
                  constructor
                  · rintro ⟨j, e, h1, h2⟩; exact ⟨j, e, h1, fun h => h2 h.1⟩
                  · rintro ⟨j, e, h1, h2⟩
                    refine ⟨j, e, h1, fun h => h2 ⟨h, fun q => c ?_⟩⟩
                    simp at q
                    rw [e, q]
              · exact hb.trans ⟨kf.os, kf.tape, kf.output, kf.size, fun j hj => kf.block j (Nat.lt_of_lt_of_le hj hb.size) (fun h => h (Or.inl hj))⟩
          clear HI2
          go_wp2_with fail
          refine Calls.mono TC.out ?_
          rintro e u2 ⟨a, rfl, ha, hI3⟩
          have HI3 : Hid (∃ (Fc : Nat → Prop) (G : Int → Option Int) (n0 n1 : Int), (0 ≤ n0 ∧ 0 ≤ n1 ∧ (n + 1) = n0 + n1 ∧ (n + 1) ≤ (i + 1) ∧ n0 + a3 ≤ C ∧ n1 ≤ a3) ∧ Bd.Bu (fun j => j < w3.heap.size ∨ j = tb) u2 b (300 + 20 * (i + 1)) Fc G ∧ Qu.IsTree u2 tb (Gv.tT C a3 n0 n1 true) ∧ (∀ x, Fc x → Bm.Has M x) ∧ (n + 1) + (Bd.cnt Fc 1048576 : Int) = C ∧ (∀ x : Int, (G x).isSome = true ↔ ∃ j : Nat, x = (j : Int) ∧ Bm.Has M j ∧ ¬ Fc j) ∧ Below w3.heap.size w3 u2) := hI3
          have BU2 : Hid (Below w3.heap.size w3 u2) := by
            obtain ⟨Fc, G, n0, n1, nm, hB, hT, hF, hc, hG, hb⟩ := hI3
            exact hb
          have SC : Hid _ := Bm.some_any 0 (.slice (some ⟨g, 0, none⟩) m cm) M a true ⟨fun _ => ha, fun _ => rfl⟩ (by have := HM.out.1; have := HM.out.2; omega) u2 (RM.out.below BU2.out)
          have nk := (HFB.out.1 a ha).2.2
          clear hI3 TC ha
          go_wp2_with fail
          refine Calls.mono SC.out ?_
          rintro e u3 ⟨rfl, hu⟩
          have HI4 : Hid (∃ (Fc : Nat → Prop) (G : Int → Option Int) (n0 n1 : Int), (0 ≤ n0 ∧ 0 ≤ n1 ∧ (n + 1) = n0 + n1 ∧ (n + 1) ≤ (i + 1) ∧ n0 + a3 ≤ C ∧ n1 ≤ a3) ∧ Bd.Bu (fun j => j < w3.heap.size ∨ j = tb) u3 b (300 + 20 * (i + 1)) Fc G ∧ Qu.IsTree u3 tb (Gv.tT C a3 n0 n1 true) ∧ (∀ x, Fc x → Bm.Has M x) ∧ (n + 1) + (Bd.cnt Fc 1048576 : Int) = C ∧ (∀ x : Int, (G x).isSome = true ↔ ∃ j : Nat, x = (j : Int) ∧ Bm.Has M j ∧ ¬ Fc j) ∧ Below w3.heap.size w3 u3) := by
            obtain ⟨Fc, G, n0, n1, nm, hB, hT, hF, hc, hG, hb⟩ := HI3.out
            exact ⟨Fc, G, n0, n1, nm, hB.below hu, hT.below hu, hF, hc, hG, hb.trans (hu.mono hb.size)⟩
          have y0 : u3.cell? ⟨w.heap.size, 0, none⟩ = some (.int .i64 a2a) := ((BX.out.below BU2.out).below hu).cell 0
          have y1 : u3.cell? ⟨w.heap.size, 1, none⟩ = some (.int .i64 a2b) := ((BX.out.below BU2.out).below hu).cell 1
          have lw3 : w.heap.size < u3.heap.size := Bm.blk_lt ((BX.out.below BU2.out).below hu)
          clear HI3 BU2 SC hu
          by_cases ca : a2a ≤ (a : Int)
          · have d3 : decide (a2a ≤ (a : Int)) = true := by simp [ca]
            have d4 : decide ((a : Int) < a2b) = false := by
              simp only [decide_eq_false_iff_not]
              intro q
              exact nk ⟨ca, q⟩
            have d5 : ¬ (a : Int) < a2b := fun q => nk ⟨ca, q⟩
            clear nk
            go_wp2_with fail
            go_roundw
            case rel => exact ⟨i + 1, n + 1, by omega, ⟨by omega, by omega⟩, by go_num, by go_num, HI4⟩
            case measure => simp [Go.RowKit.intOf]; omega
          · have d3 : decide (a2a ≤ (a : Int)) = false := by simp; omega
            clear nk
            go_wp2_with fail
            go_roundw
            case rel => exact ⟨i + 1, n + 1, by omega, ⟨by omega, by omega⟩, by go_num, by go_num, HI4⟩
            case measure => simp [Go.RowKit.intOf]; omega
      · have tm : (i : Int).tmod 2 = 1 := by rw [show (2 : Int) = ((2 : Nat) : Int) from rfl, ← Int.ofNat_tmod, pi]; rfl
        clear pi
        as_aux_lemma =>
          obtain ⟨Fc, G, n0, n1, ⟨k0, k1, k2, k3, k4, k5⟩, hB, hT, hF, hc, hG, hb⟩ := hI.out
          by_cases cr : a3 - n1 < 1
          · have CH : Hid (Calls Try.prog 14 #[.pointer (some ⟨tb, 0, none⟩), .int .i64 1, .int .i64 1] wr fun e w' => e = .returned (.int .i64 8) ∧ (∃ (Fc : Nat → Prop) (G : Int → Option Int) (n0 n1 : Int), (0 ≤ n0 ∧ 0 ≤ n1 ∧ n = n0 + n1 ∧ n ≤ (i + 1) ∧ n0 + a3 ≤ C ∧ n1 ≤ a3) ∧ Bd.Bu (fun j => j < w3.heap.size ∨ j = tb) w' b (300 + 20 * (i + 1)) Fc G ∧ Qu.IsTree w' tb (Gv.tT C a3 n0 n1 true) ∧ (∀ x, Fc x → Bm.Has M x) ∧ n + (Bd.cnt Fc 1048576 : Int) = C ∧ (∀ x : Int, (G x).isSome = true ↔ ∃ j : Nat, x = (j : Int) ∧ Bm.Has M j ∧ ¬ Fc j) ∧ Below w3.heap.size w3 w')) := by
              have OKT : Qu.OkT (Gv.tT C a3 n0 n1 true) := Gv.tT_ok (by omega) (by omega) (by omega) (by omega) (by omega) (by omega) (by omega) (by omega)
              refine (Qu.charge_any tb _ OKT 1 1 wr hT).mono ?_
              rintro e w' ⟨he, hT2, hg⟩
              rw [Gv.may1 _ _ _ _ _ (by omega), if_pos cr] at he
              rw [Gv.charge1_no cr] at hT2
              refine ⟨he, Fc, G, n0, n1, ⟨k0, k1, k2, by omega, k4, k5⟩, ((hB.next hg.size (fun j hj nz => hg.block j hj (fun e => nz (Or.inr (by have := Option.some.inj e; omega))))).less (fun j h => Or.inl h)).mono (by omega), hT2, hF, hc, hG, ?_⟩
              exact hb.trans ⟨hg.os, hg.tape, hg.output, hg.size, fun j hj => hg.block j (Nat.lt_of_lt_of_le hj hb.size) (fun e => by have := LT.out; have := Option.some.inj e; omega)⟩
            clear hB hT hF hc hG hb hI k0 k1 k2 k3 k4 k5 cr
            go_wp2_with fail
            refine Calls.mono CH.out ?_
            rintro e u1 ⟨rfl, hI2⟩
            have HI2 : Hid (∃ (Fc : Nat → Prop) (G : Int → Option Int) (n0 n1 : Int), (0 ≤ n0 ∧ 0 ≤ n1 ∧ n = n0 + n1 ∧ n ≤ (i + 1) ∧ n0 + a3 ≤ C ∧ n1 ≤ a3) ∧ Bd.Bu (fun j => j < w3.heap.size ∨ j = tb) u1 b (300 + 20 * (i + 1)) Fc G ∧ Qu.IsTree u1 tb (Gv.tT C a3 n0 n1 true) ∧ (∀ x, Fc x → Bm.Has M x) ∧ n + (Bd.cnt Fc 1048576 : Int) = C ∧ (∀ x : Int, (G x).isSome = true ↔ ∃ j : Nat, x = (j : Int) ∧ Bm.Has M j ∧ ¬ Fc j) ∧ Below w3.heap.size w3 u1) := hI2
            clear hI2 CH
            go_wp2_with fail
            go_roundw
            case rel => exact ⟨i + 1, n, by omega, ⟨by omega, by omega⟩, by go_num, rfl, HI2⟩
            case measure => simp [Go.RowKit.intOf]; omega
          have CH : Hid (Calls Try.prog 14 #[.pointer (some ⟨tb, 0, none⟩), .int .i64 1, .int .i64 1] wr fun e u1 => e = .returned (.int .i64 0) ∧ (∃ (Fc : Nat → Prop) (G : Int → Option Int) (n0 n1 : Int), (0 ≤ n0 ∧ 0 ≤ (n1 + 1) ∧ n + 1 = n0 + (n1 + 1) ∧ n + 1 ≤ i + 1 ∧ n0 + a3 ≤ C ∧ (n1 + 1) ≤ a3) ∧ 0 < Bd.cnt Fc 1048576 ∧ Bd.Bu (fun j => j < w3.heap.size ∨ j = tb) u1 b (300 + 20 * i) Fc G ∧ Qu.IsTree u1 tb (Gv.tT C a3 n0 (n1 + 1) true) ∧ (∀ x, Fc x → Bm.Has M x) ∧ n + (Bd.cnt Fc 1048576 : Int) = C ∧ (∀ x : Int, (G x).isSome = true ↔ ∃ j : Nat, x = (j : Int) ∧ Bm.Has M j ∧ ¬ Fc j) ∧ Below w3.heap.size w3 u1)) := by
            have OKT : Qu.OkT (Gv.tT C a3 n0 n1 true) := Gv.tT_ok (by omega) (by omega) (by omega) (by omega) (by omega) (by omega) (by omega) (by omega)
            refine (Qu.charge_any tb _ OKT 1 1 wr hT).mono ?_
            rintro e w' ⟨he, hT2, hg⟩
            rw [Gv.may1 _ _ _ _ _ (by omega), if_neg cr] at he
            rw [Gv.charge1 cr] at hT2
            refine ⟨he, Fc, G, n0, n1, ⟨by omega, by omega, by omega, by omega, by omega, by omega⟩, by omega, ((hB.next hg.size (fun j hj nz => hg.block j hj (fun e => nz (Or.inr (by have := Option.some.inj e; omega))))).less (fun j h => Or.inl h)).mono (by omega), hT2, hF, hc, hG, ?_⟩
            exact hb.trans ⟨hg.os, hg.tape, hg.output, hg.size, fun j hj => hg.block j (Nat.lt_of_lt_of_le hj hb.size) (fun e => by have := LT.out; have := Option.some.inj e; omega)⟩
          clear hB hT hF hc hG hb hI k0 k1 k2 k3 k4 k5 cr
          go_wp2_with fail
          refine Calls.mono CH.out ?_
          rintro e u1 ⟨rfl, hI2⟩
          have HI2 : Hid (∃ (Fc : Nat → Prop) (G : Int → Option Int) (n0 n1 : Int), (0 ≤ n0 ∧ 0 ≤ (n1 + 1) ∧ n + 1 = n0 + (n1 + 1) ∧ n + 1 ≤ i + 1 ∧ n0 + a3 ≤ C ∧ (n1 + 1) ≤ a3) ∧ 0 < Bd.cnt Fc 1048576 ∧ Bd.Bu (fun j => j < w3.heap.size ∨ j = tb) u1 b (300 + 20 * i) Fc G ∧ Qu.IsTree u1 tb (Gv.tT C a3 n0 (n1 + 1) true) ∧ (∀ x, Fc x → Bm.Has M x) ∧ n + (Bd.cnt Fc 1048576 : Int) = C ∧ (∀ x : Int, (G x).isSome = true ↔ ∃ j : Nat, x = (j : Int) ∧ Bm.Has M j ∧ ¬ Fc j) ∧ Below w3.heap.size w3 u1) := hI2
          clear hI2 CH
          have TC : Hid (Calls Try.prog 15 #[.pointer (some ⟨b, 0, none⟩), .int .i64 0] u1 fun e w' => ∃ a : Nat, e = .returned (.tuple #[.int .i64 a, .int .i64 0]) ∧ Bm.Has M a ∧ (∃ (Fc : Nat → Prop) (G : Int → Option Int) (n0 n1 : Int), (0 ≤ n0 ∧ 0 ≤ n1 ∧ (n + 1) = n0 + n1 ∧ (n + 1) ≤ (i + 1) ∧ n0 + a3 ≤ C ∧ n1 ≤ a3) ∧ Bd.Bu (fun j => j < w3.heap.size ∨ j = tb) w' b (300 + 20 * (i + 1)) Fc G ∧ Qu.IsTree w' tb (Gv.tT C a3 n0 n1 true) ∧ (∀ x, Fc x → Bm.Has M x) ∧ (n + 1) + (Bd.cnt Fc 1048576 : Int) = C ∧ (∀ x : Int, (G x).isSome = true ↔ ∃ j : Nat, x = (j : Int) ∧ Bm.Has M j ∧ ¬ Fc j) ∧ Below w3.heap.size w3 w')) := by
            obtain ⟨Fc, G, n0, n1, nm, cp, hB, hT, hF, hc, hG, hb⟩ := HI2.out
            refine (hB.take 0 (by omega) (by omega)).mono ?_
            rintro e w' (⟨_, _, h⟩ | ⟨p, f, q, d, he, T, hB2, kf⟩)
            · exfalso
              obtain ⟨x, hx⟩ := Gv.cnt_some (F := Fc) (n := 1048576) (by omega)
              obtain ⟨k, q, hk, hcn⟩ := Gv.cn_some hx
              exact h k q (Nat.zero_le _) hk hcn
            · have Fp : Fc p := T.all p (by simp)
              have Rp := hF p Fp
              have e1 : ((p * 2 ^ 0 : Nat) : Int) = (p : Int) := by simp
              rw [e1] at he hB2
              have cn : Bd.cnt (fun i => Fc i ∧ ¬ i / 2 ^ 0 = p) 1048576 + 2 ^ 0 = Bd.cnt Fc 1048576 := by
                have e := Bd.cnt_sub Fc (fun i => i / 2 ^ 0 = p) (fun i hi => T.all i hi) 1048576
                rw [Bd.cnt_blk (by have := (HFB.out.1 p Rp).2.1; simp; omega)] at e
                exact e
              have cn' : (Bd.cnt (fun i => Fc i ∧ ¬ i / 2 ^ 0 = p) 1048576 : Int) + 1 = Bd.cnt Fc 1048576 := by
                rw [← cn]; simp
              refine ⟨p, he, Rp, _, _, n0, (n1 + 1), nm, hB2.mono (by omega), Gv.tree_block hT kf.size (kf.block tb hT.2.2 (fun h => h (Or.inr rfl))), fun x hx => hF x hx.1, by omega, fun x => ?_, ?_⟩
              · by_cases c : x = (p : Int)
                · subst c
                  rw [Bd.set_same]
                  exact ⟨fun _ => ⟨p, rfl, Rp, fun h => h.2 (by simp)⟩, fun _ => rfl⟩
                · rw [Bd.set_other _ _ _ _ c, hG]
                  constructor
                  · rintro ⟨j, e, h1, h2⟩; exact ⟨j, e, h1, fun h => h2 h.1⟩
                  · rintro ⟨j, e, h1, h2⟩
                    refine ⟨j, e, h1, fun h => h2 ⟨h, fun q => c ?_⟩⟩
                    simp at q
                    rw [e, q]
              · exact hb.trans ⟨kf.os, kf.tape, kf.output, kf.size, fun j hj => kf.block j (Nat.lt_of_lt_of_le hj hb.size) (fun h => h (Or.inl hj))⟩
          clear HI2
          go_wp2_with fail
          refine Calls.mono TC.out ?_
          rintro e u2 ⟨a, rfl, ha, hI3⟩
          have HI3 : Hid (∃ (Fc : Nat → Prop) (G : Int → Option Int) (n0 n1 : Int), (0 ≤ n0 ∧ 0 ≤ n1 ∧ (n + 1) = n0 + n1 ∧ (n + 1) ≤ (i + 1) ∧ n0 + a3 ≤ C ∧ n1 ≤ a3) ∧ Bd.Bu (fun j => j < w3.heap.size ∨ j = tb) u2 b (300 + 20 * (i + 1)) Fc G ∧ Qu.IsTree u2 tb (Gv.tT C a3 n0 n1 true) ∧ (∀ x, Fc x → Bm.Has M x) ∧ (n + 1) + (Bd.cnt Fc 1048576 : Int) = C ∧ (∀ x : Int, (G x).isSome = true ↔ ∃ j : Nat, x = (j : Int) ∧ Bm.Has M j ∧ ¬ Fc j) ∧ Below w3.heap.size w3 u2) := hI3
          have BU2 : Hid (Below w3.heap.size w3 u2) := by
            obtain ⟨Fc, G, n0, n1, nm, hB, hT, hF, hc, hG, hb⟩ := hI3
            exact hb
          have SC : Hid _ := Bm.some_any 0 (.slice (some ⟨g, 0, none⟩) m cm) M a true ⟨fun _ => ha, fun _ => rfl⟩ (by have := HM.out.1; have := HM.out.2; omega) u2 (RM.out.below BU2.out)
          have nk := (HFB.out.1 a ha).2.2
          clear hI3 TC ha
          go_wp2_with fail
          refine Calls.mono SC.out ?_
          rintro e u3 ⟨rfl, hu⟩
          have HI4 : Hid (∃ (Fc : Nat → Prop) (G : Int → Option Int) (n0 n1 : Int), (0 ≤ n0 ∧ 0 ≤ n1 ∧ (n + 1) = n0 + n1 ∧ (n + 1) ≤ (i + 1) ∧ n0 + a3 ≤ C ∧ n1 ≤ a3) ∧ Bd.Bu (fun j => j < w3.heap.size ∨ j = tb) u3 b (300 + 20 * (i + 1)) Fc G ∧ Qu.IsTree u3 tb (Gv.tT C a3 n0 n1 true) ∧ (∀ x, Fc x → Bm.Has M x) ∧ (n + 1) + (Bd.cnt Fc 1048576 : Int) = C ∧ (∀ x : Int, (G x).isSome = true ↔ ∃ j : Nat, x = (j : Int) ∧ Bm.Has M j ∧ ¬ Fc j) ∧ Below w3.heap.size w3 u3) := by
            obtain ⟨Fc, G, n0, n1, nm, hB, hT, hF, hc, hG, hb⟩ := HI3.out
            exact ⟨Fc, G, n0, n1, nm, hB.below hu, hT.below hu, hF, hc, hG, hb.trans (hu.mono hb.size)⟩
          have y0 : u3.cell? ⟨w.heap.size, 0, none⟩ = some (.int .i64 a2a) := ((BX.out.below BU2.out).below hu).cell 0
          have y1 : u3.cell? ⟨w.heap.size, 1, none⟩ = some (.int .i64 a2b) := ((BX.out.below BU2.out).below hu).cell 1
          have lw3 : w.heap.size < u3.heap.size := Bm.blk_lt ((BX.out.below BU2.out).below hu)
          clear HI3 BU2 SC hu
          by_cases ca : a2a ≤ (a : Int)
          · have d3 : decide (a2a ≤ (a : Int)) = true := by simp [ca]
            have d4 : decide ((a : Int) < a2b) = false := by
              simp only [decide_eq_false_iff_not]
              intro q
              exact nk ⟨ca, q⟩
            have d5 : ¬ (a : Int) < a2b := fun q => nk ⟨ca, q⟩
            clear nk
            go_wp2_with fail
            go_roundw
            case rel => exact ⟨i + 1, n + 1, by omega, ⟨by omega, by omega⟩, by go_num, by go_num, HI4⟩
            case measure => simp [Go.RowKit.intOf]; omega
          · have d3 : decide (a2a ≤ (a : Int)) = false := by simp; omega
            clear nk
            go_wp2_with fail
            go_roundw
            case rel => exact ⟨i + 1, n + 1, by omega, ⟨by omega, by omega⟩, by go_num, by go_num, HI4⟩
            case measure => simp [Go.RowKit.intOf]; omega
  · obtain ⟨hv, hhv⟩ : ∃ hv, hv = Qu.childN (Gv.tT C 0 0 0 false) 0 a3 := ⟨_, rfl⟩
    obtain ⟨cv, hcv⟩ : ∃ cv, cv = Qu.childI (Gv.tT C 0 0 0 false) 0 a3 := ⟨_, rfl⟩
    obtain ⟨q1, q2⟩ := Gv.child_no (C := C) (lt := a3) (by omega)
    rw [← hhv] at q1
    have CC : Hid (Calls Try.prog 13 #[.pointer (some ⟨tb, 0, none⟩), .int .i64 0, .int .i64 a3] v5 fun e w' => e = .returned (.tuple #[.int .i64 cv, .int .i64 hv]) ∧ Qu.IsTree w' tb (Gv.tT C 0 0 0 false) ∧ v5.grownBy w' (some tb)) := by
      have r := Qu.child_any tb _ OKT.out 0 a3 v5 HT5.out
      rw [q2, ← hhv, ← hcv] at r
      exact r
    have h1 : (hv != 0) = true := by simp [q1]
    have h2 : (hv == 0) = false := by simp [q1]
    have h3 : ¬ hv = 0 := q1
    clear hhv hcv q2 q1
    go_wp2_with fail
    refine Calls.mono CC.out ?_
    rintro e w7 ⟨rfl, hT7, hg⟩
    have HT7 : Hid (Qu.IsTree w7 tb (Gv.tT C 0 0 0 false)) := hT7
    have HB7 : Hid (Bd.Bu (fun j => j < w3.heap.size ∨ j = tb) w7 b 300 (fun j : Nat => Has M j) Bd.noneF) := (HB5.out.next hg.size (fun j hj nz => hg.block j hj (fun e => nz (Or.inr (by have := Option.some.inj e; omega))))).less (fun j h => Or.inl h)
    have BW7 : Hid (Below w3.heap.size w3 w7) := BW5.out.trans ⟨hg.os, hg.tape, hg.output, hg.size, fun j hj => hg.block j (Nat.lt_of_lt_of_le hj BW5.out.size) (fun e => by have := LT.out; have := Option.some.inj e; omega)⟩
    clear hT7 hg CC HT5 HB5 HB5' BW5 OKT
    have J0 : Hid (∃ (Fc : Nat → Prop) (G : Int → Option Int) (n0 n1 : Int), (0 ≤ n0 ∧ 0 ≤ n1 ∧ (0 : Int) = n0 + n1 ∧ (0 : Int) ≤ (0 : Nat) ∧ n0 + 0 ≤ C ∧ n1 ≤ 0) ∧ Bd.Bu (fun j => j < w3.heap.size ∨ j = tb) w7 b (300 + 20 * (0 : Nat)) Fc G ∧ Qu.IsTree w7 tb (Gv.tT C 0 n0 n1 false) ∧ (∀ x, Fc x → Bm.Has M x) ∧ (0 : Int) + (Bd.cnt Fc 1048576 : Int) = C ∧ (∀ x : Int, (G x).isSome = true ↔ ∃ j : Nat, x = (j : Int) ∧ Bm.Has M j ∧ ¬ Fc j) ∧ Below w3.heap.size w3 w7) := by
      refine ⟨_, Bd.noneF, 0, 0, ⟨by omega, by omega, by omega, by omega, by omega, by omega⟩, HB7.out, HT7.out, fun x hx => hx, ?_, fun x => ⟨(fun h => by cases h), fun ⟨j, _, h1, h2⟩ => absurd h1 h2⟩, BW7.out⟩
      have := HC.out; omega
    have HB8 : Hid (Bd.Bu (fun j => j < w3.heap.size) w7 b 300 (fun j : Nat => Has M j) Bd.noneF) := HB7.out.less (fun j h => Or.inl h)
    clear HB7 HT7 BW7
    by_cases c0 : a3 < 0
    · have g1 : decide ((0 : Int) ≤ a3) = false := by simp; omega
      clear FC HB8
      go_wp2_with fail
      go_loopw [19, 20, 21, 22, 23] (fun vn vi _ _ _ W => ∃ (i : Nat) (n : Int), i ≤ 310 ∧ (0 ≤ n ∧ n ≤ (i : Int)) ∧ vi = .int .i64 i ∧ vn = .int .i64 n ∧ Hid (∃ (Fc : Nat → Prop) (G : Int → Option Int) (n0 n1 : Int), (0 ≤ n0 ∧ 0 ≤ n1 ∧ n = n0 + n1 ∧ n ≤ i ∧ n0 + 0 ≤ C ∧ n1 ≤ 0) ∧ Bd.Bu (fun j => j < w3.heap.size ∨ j = tb) W b (300 + 20 * i) Fc G ∧ Qu.IsTree W tb (Gv.tT C 0 n0 n1 false) ∧ (∀ x, Fc x → Bm.Has M x) ∧ n + (Bd.cnt Fc 1048576 : Int) = C ∧ (∀ x : Int, (G x).isSome = true ↔ ∃ j : Nat, x = (j : Int) ∧ Bm.Has M j ∧ ¬ Fc j) ∧ Below w3.heap.size w3 W)) (fun _ vi _ _ _ _ => 310 - (Go.RowKit.intOf vi).toNat)
      case atStart => exact ⟨0, 0, by omega, ⟨by omega, by omega⟩, rfl, rfl, J0⟩
      case round =>
        clear J0
        obtain ⟨i, n, hi, ⟨n0', n1'⟩, rfl, rfl, hI⟩ := hrel
        by_cases ci : i < 310
        rotate_left
        · obtain rfl : i = 310 := by omega
          rw [show ((310 : Nat) : Int) = (310 : Int) from rfl]
          as_aux_lemma =>
            obtain ⟨Fc, G, n0, n1, ⟨k0, k1, k2, k3, k4, k5⟩, hB, hT, hF, hc, hG, hb⟩ := hI.out
            have GC : Hid (Calls Try.prog 17 #[.pointer (some ⟨b, 0, none⟩)] wr fun e w' => ∃ p c, ∃ l : Nat, e = .returned (.slice p l c) ∧ (l : Int) = n ∧ Below wr.heap.size wr w') := by
              refine (hB.given (by omega)).mono ?_
              rintro e w' ⟨v, L, he, hA, hM, hO, hb2⟩
              obtain ⟨p, c, hv⟩ : ∃ p c, v = .slice p L.length c := by
                obtain ⟨_, ⟨hv, h0⟩ | ⟨g, cap, cur, hv, _⟩⟩ := hO
                · exact ⟨none, 0, by rw [hv, h0]⟩
                · exact ⟨_, _, hv⟩
              refine ⟨p, c, L.length, by rw [he, hv], ?_, hb2⟩
              have e2 : L.length = Bd.cnt (fun j : Nat => Bm.Has M j ∧ ¬ Fc j) 1048576 := Gv.cnt_keys (fun x hx => by have := (HFB.out.1 x hx.1).2.1; omega) hA (fun x => by
                rw [hM, hG])
              have e3 := Bd.cnt_sub (fun j : Nat => Bm.Has M j) Fc hF 1048576
              have e4 := HC.out
              rw [e2]
              omega
            have RC : Hid (∀ W', Below wr.heap.size wr W' → Calls Try.prog 18 #[.pointer (some ⟨tb, 0, none⟩), .int .i64 0] W' fun e w' => e = .returned (.int .i64 (C - n0 - 0)) ∧ Below W'.heap.size W' w') := fun W' hb' => by
              have r := Qu.room_any tb _ (Gv.tT_ok      (by omega) (by omega) (by omega) (by omega) (by omega) (by omega) (by omega) (by omega)) 0 W' (hT.below hb')
              rw [Gv.getN0, Gv.tT0] at r
              exact r
            have FC : Hid (∀ W', Below wr.heap.size wr W' → Calls Try.prog 11 #[.pointer (some ⟨b, 0, none⟩)] W' fun e w' => e = .returned (.int .i64 (C - n)) ∧ w' = W') := fun W' hb' => by
              have r := (hB.below hb').free
              rw [show (Bd.cnt Fc 1048576 : Int) = C - n by omega] at r
              exact r
            have HBW : Hid (Below w3.heap.size w3 wr) := hb
            have e1 : decide ((0 : Int) ≤ C - n0 - 0) = true := by simp; omega
            have e2 : decide (C - n0 - 0 ≤ C - n) = true := by simp; omega
            clear hB hT hF hc hG hb hI k0 k1 k2 k3 k4 k5
            generalize C - n0 - 0 = rm at *
            generalize C - n = fr at *
            go_wp2_with fail
            refine Calls.mono GC.out ?_
            rintro e u1 ⟨p, c, l, rfl, hl, hu1⟩
            have B1 : Hid (Below wr.heap.size wr u1) := hu1
            have e3 : ((l : Int) == n) = true := by simp [hl]
            clear hu1 GC
            subst hl
            go_wp2_with fail
            refine Calls.mono (RC.out u1 B1.out) ?_
            rintro e u2 ⟨rfl, hu2⟩
            have B2 : Hid (Below wr.heap.size wr u2) := below_then B1.out hu2
            clear hu2
            go_wp2_with fail
            refine Calls.mono (FC.out u2 B2.out) ?_
            rintro e u3 ⟨rfl, rfl⟩
            go_wp2_with fail
            refine Calls.mono (RC.out u3 B2.out) ?_
            rintro e u4 ⟨rfl, hu4⟩
            have B4 : Hid (Below w.heap.size w u4) := below_then BW.out (HBW.out.trans ((below_then B2.out hu4).mono HBW.out.size))
            clear hu4
            go_wp2_with fail
            go_ret
            exact ⟨rfl, B4.out⟩
        have di : decide ((i : Int) < 310) = true := by simp; omega
        rcases (show i % 2 = 0 ∨ i % 2 = 1 by omega) with pi | pi
        · have tm : (i : Int).tmod 2 = 0 := by rw [show (2 : Int) = ((2 : Nat) : Int) from rfl, ← Int.ofNat_tmod, pi]; rfl
          clear pi
          as_aux_lemma =>
            obtain ⟨Fc, G, n0, n1, ⟨k0, k1, k2, k3, k4, k5⟩, hB, hT, hF, hc, hG, hb⟩ := hI.out
            by_cases cr : C - n0 - 0 < 1
            · have CH : Hid (Calls Try.prog 14 #[.pointer (some ⟨tb, 0, none⟩), .int .i64 0, .int .i64 1] wr fun e w' => e = .returned (.int .i64 8) ∧ (∃ (Fc : Nat → Prop) (G : Int → Option Int) (n0 n1 : Int), (0 ≤ n0 ∧ 0 ≤ n1 ∧ n = n0 + n1 ∧ n ≤ (i + 1) ∧ n0 + 0 ≤ C ∧ n1 ≤ 0) ∧ Bd.Bu (fun j => j < w3.heap.size ∨ j = tb) w' b (300 + 20 * (i + 1)) Fc G ∧ Qu.IsTree w' tb (Gv.tT C 0 n0 n1 false) ∧ (∀ x, Fc x → Bm.Has M x) ∧ n + (Bd.cnt Fc 1048576 : Int) = C ∧ (∀ x : Int, (G x).isSome = true ↔ ∃ j : Nat, x = (j : Int) ∧ Bm.Has M j ∧ ¬ Fc j) ∧ Below w3.heap.size w3 w')) := by
                have OKT : Qu.OkT (Gv.tT C 0 n0 n1 false) := Gv.tT_ok (by omega) (by omega) (by omega) (by omega) (by omega) (by omega) (by omega) (by omega)
                refine (Qu.charge_any tb _ OKT 0 1 wr hT).mono ?_
                rintro e w' ⟨he, hT2, hg⟩
                rw [Gv.may0 _ _ _ _ _ _ (by omega), if_pos cr] at he
                rw [Gv.charge0_no cr] at hT2
                refine ⟨he, Fc, G, n0, n1, ⟨k0, k1, k2, by omega, k4, k5⟩, ((hB.next hg.size (fun j hj nz => hg.block j hj (fun e => nz (Or.inr (by have := Option.some.inj e; omega))))).less (fun j h => Or.inl h)).mono (by omega), hT2, hF, hc, hG, ?_⟩
                exact hb.trans ⟨hg.os, hg.tape, hg.output, hg.size, fun j hj => hg.block j (Nat.lt_of_lt_of_le hj hb.size) (fun e => by have := LT.out; have := Option.some.inj e; omega)⟩
              clear hB hT hF hc hG hb hI k0 k1 k2 k3 k4 k5 cr
              go_wp2_with fail
              refine Calls.mono CH.out ?_
              rintro e u1 ⟨rfl, hI2⟩
              have HI2 : Hid (∃ (Fc : Nat → Prop) (G : Int → Option Int) (n0 n1 : Int), (0 ≤ n0 ∧ 0 ≤ n1 ∧ n = n0 + n1 ∧ n ≤ (i + 1) ∧ n0 + 0 ≤ C ∧ n1 ≤ 0) ∧ Bd.Bu (fun j => j < w3.heap.size ∨ j = tb) u1 b (300 + 20 * (i + 1)) Fc G ∧ Qu.IsTree u1 tb (Gv.tT C 0 n0 n1 false) ∧ (∀ x, Fc x → Bm.Has M x) ∧ n + (Bd.cnt Fc 1048576 : Int) = C ∧ (∀ x : Int, (G x).isSome = true ↔ ∃ j : Nat, x = (j : Int) ∧ Bm.Has M j ∧ ¬ Fc j) ∧ Below w3.heap.size w3 u1) := hI2
              clear hI2 CH
              go_wp2_with fail
              go_roundw
              case rel => exact ⟨i + 1, n, by omega, ⟨by omega, by omega⟩, by go_num, rfl, HI2⟩
              case measure => simp [Go.RowKit.intOf]; omega
            have CH : Hid (Calls Try.prog 14 #[.pointer (some ⟨tb, 0, none⟩), .int .i64 0, .int .i64 1] wr fun e u1 => e = .returned (.int .i64 0) ∧ (∃ (Fc : Nat → Prop) (G : Int → Option Int) (n0 n1 : Int), (0 ≤ (n0 + 1) ∧ 0 ≤ n1 ∧ n + 1 = (n0 + 1) + n1 ∧ n + 1 ≤ i + 1 ∧ (n0 + 1) + 0 ≤ C ∧ n1 ≤ 0) ∧ 0 < Bd.cnt Fc 1048576 ∧ Bd.Bu (fun j => j < w3.heap.size ∨ j = tb) u1 b (300 + 20 * i) Fc G ∧ Qu.IsTree u1 tb (Gv.tT C 0 (n0 + 1) n1 false) ∧ (∀ x, Fc x → Bm.Has M x) ∧ n + (Bd.cnt Fc 1048576 : Int) = C ∧ (∀ x : Int, (G x).isSome = true ↔ ∃ j : Nat, x = (j : Int) ∧ Bm.Has M j ∧ ¬ Fc j) ∧ Below w3.heap.size w3 u1)) := by
              have OKT : Qu.OkT (Gv.tT C 0 n0 n1 false) := Gv.tT_ok (by omega) (by omega) (by omega) (by omega) (by omega) (by omega) (by omega) (by omega)
              refine (Qu.charge_any tb _ OKT 0 1 wr hT).mono ?_
              rintro e w' ⟨he, hT2, hg⟩
              rw [Gv.may0 _ _ _ _ _ _ (by omega), if_neg cr] at he
              rw [Gv.charge0 cr] at hT2
              refine ⟨he, Fc, G, n0, n1, ⟨by omega, by omega, by omega, by omega, by omega, by omega⟩, by omega, ((hB.next hg.size (fun j hj nz => hg.block j hj (fun e => nz (Or.inr (by have := Option.some.inj e; omega))))).less (fun j h => Or.inl h)).mono (by omega), hT2, hF, hc, hG, ?_⟩
              exact hb.trans ⟨hg.os, hg.tape, hg.output, hg.size, fun j hj => hg.block j (Nat.lt_of_lt_of_le hj hb.size) (fun e => by have := LT.out; have := Option.some.inj e; omega)⟩
            clear hB hT hF hc hG hb hI k0 k1 k2 k3 k4 k5 cr
            go_wp2_with fail
            refine Calls.mono CH.out ?_
            rintro e u1 ⟨rfl, hI2⟩
            have HI2 : Hid (∃ (Fc : Nat → Prop) (G : Int → Option Int) (n0 n1 : Int), (0 ≤ (n0 + 1) ∧ 0 ≤ n1 ∧ n + 1 = (n0 + 1) + n1 ∧ n + 1 ≤ i + 1 ∧ (n0 + 1) + 0 ≤ C ∧ n1 ≤ 0) ∧ 0 < Bd.cnt Fc 1048576 ∧ Bd.Bu (fun j => j < w3.heap.size ∨ j = tb) u1 b (300 + 20 * i) Fc G ∧ Qu.IsTree u1 tb (Gv.tT C 0 (n0 + 1) n1 false) ∧ (∀ x, Fc x → Bm.Has M x) ∧ n + (Bd.cnt Fc 1048576 : Int) = C ∧ (∀ x : Int, (G x).isSome = true ↔ ∃ j : Nat, x = (j : Int) ∧ Bm.Has M j ∧ ¬ Fc j) ∧ Below w3.heap.size w3 u1) := hI2
            clear hI2 CH
            have TC : Hid (Calls Try.prog 15 #[.pointer (some ⟨b, 0, none⟩), .int .i64 0] u1 fun e w' => ∃ a : Nat, e = .returned (.tuple #[.int .i64 a, .int .i64 0]) ∧ Bm.Has M a ∧ (∃ (Fc : Nat → Prop) (G : Int → Option Int) (n0 n1 : Int), (0 ≤ n0 ∧ 0 ≤ n1 ∧ (n + 1) = n0 + n1 ∧ (n + 1) ≤ (i + 1) ∧ n0 + 0 ≤ C ∧ n1 ≤ 0) ∧ Bd.Bu (fun j => j < w3.heap.size ∨ j = tb) w' b (300 + 20 * (i + 1)) Fc G ∧ Qu.IsTree w' tb (Gv.tT C 0 n0 n1 false) ∧ (∀ x, Fc x → Bm.Has M x) ∧ (n + 1) + (Bd.cnt Fc 1048576 : Int) = C ∧ (∀ x : Int, (G x).isSome = true ↔ ∃ j : Nat, x = (j : Int) ∧ Bm.Has M j ∧ ¬ Fc j) ∧ Below w3.heap.size w3 w')) := by
              obtain ⟨Fc, G, n0, n1, nm, cp, hB, hT, hF, hc, hG, hb⟩ := HI2.out
              refine (hB.take 0 (by omega) (by omega)).mono ?_
              rintro e w' (⟨_, _, h⟩ | ⟨p, f, q, d, he, T, hB2, kf⟩)
              · exfalso
                obtain ⟨x, hx⟩ := Gv.cnt_some (F := Fc) (n := 1048576) (by omega)
                obtain ⟨k, q, hk, hcn⟩ := Gv.cn_some hx
                exact h k q (Nat.zero_le _) hk hcn
              · have Fp : Fc p := T.all p (by simp)
                have Rp := hF p Fp
                have e1 : ((p * 2 ^ 0 : Nat) : Int) = (p : Int) := by simp
                rw [e1] at he hB2
                have cn : Bd.cnt (fun i => Fc i ∧ ¬ i / 2 ^ 0 = p) 1048576 + 2 ^ 0 = Bd.cnt Fc 1048576 := by
                  have e := Bd.cnt_sub Fc (fun i => i / 2 ^ 0 = p) (fun i hi => T.all i hi) 1048576
                  rw [Bd.cnt_blk (by have := (HFB.out.1 p Rp).2.1; simp; omega)] at e
                  exact e
                have cn' : (Bd.cnt (fun i => Fc i ∧ ¬ i / 2 ^ 0 = p) 1048576 : Int) + 1 = Bd.cnt Fc 1048576 := by
                  rw [← cn]; simp
                refine ⟨p, he, Rp, _, _, (n0 + 1), n1, nm, hB2.mono (by omega), Gv.tree_block hT kf.size (kf.block tb hT.2.2 (fun h => h (Or.inr rfl))), fun x hx => hF x hx.1, by omega, fun x => ?_, ?_⟩
                · by_cases c : x = (p : Int)
                  · subst c
                    rw [Bd.set_same]
                    exact ⟨fun _ => ⟨p, rfl, Rp, fun h => h.2 (by simp)⟩, fun _ => rfl⟩
                  · rw [Bd.set_other _ _ _ _ c, hG]
                    constructor
                    · rintro ⟨j, e, h1, h2⟩; exact ⟨j, e, h1, fun h => h2 h.1⟩
                    · rintro ⟨j, e, h1, h2⟩
                      refine ⟨j, e, h1, fun h => h2 ⟨h, fun q => c ?_⟩⟩
                      simp at q
                      rw [e, q]
                · exact hb.trans ⟨kf.os, kf.tape, kf.output, kf.size, fun j hj => kf.block j (Nat.lt_of_lt_of_le hj hb.size) (fun h => h (Or.inl hj))⟩
            clear HI2
            go_wp2_with fail
            refine Calls.mono TC.out ?_
            rintro e u2 ⟨a, rfl, ha, hI3⟩
            have HI3 : Hid (∃ (Fc : Nat → Prop) (G : Int → Option Int) (n0 n1 : Int), (0 ≤ n0 ∧ 0 ≤ n1 ∧ (n + 1) = n0 + n1 ∧ (n + 1) ≤ (i + 1) ∧ n0 + 0 ≤ C ∧ n1 ≤ 0) ∧ Bd.Bu (fun j => j < w3.heap.size ∨ j = tb) u2 b (300 + 20 * (i + 1)) Fc G ∧ Qu.IsTree u2 tb (Gv.tT C 0 n0 n1 false) ∧ (∀ x, Fc x → Bm.Has M x) ∧ (n + 1) + (Bd.cnt Fc 1048576 : Int) = C ∧ (∀ x : Int, (G x).isSome = true ↔ ∃ j : Nat, x = (j : Int) ∧ Bm.Has M j ∧ ¬ Fc j) ∧ Below w3.heap.size w3 u2) := hI3
            have BU2 : Hid (Below w3.heap.size w3 u2) := by
              obtain ⟨Fc, G, n0, n1, nm, hB, hT, hF, hc, hG, hb⟩ := hI3
              exact hb
            have SC : Hid _ := Bm.some_any 0 (.slice (some ⟨g, 0, none⟩) m cm) M a true ⟨fun _ => ha, fun _ => rfl⟩ (by have := HM.out.1; have := HM.out.2; omega) u2 (RM.out.below BU2.out)
            have nk := (HFB.out.1 a ha).2.2
            clear hI3 TC ha
            go_wp2_with fail
            refine Calls.mono SC.out ?_
            rintro e u3 ⟨rfl, hu⟩
            have HI4 : Hid (∃ (Fc : Nat → Prop) (G : Int → Option Int) (n0 n1 : Int), (0 ≤ n0 ∧ 0 ≤ n1 ∧ (n + 1) = n0 + n1 ∧ (n + 1) ≤ (i + 1) ∧ n0 + 0 ≤ C ∧ n1 ≤ 0) ∧ Bd.Bu (fun j => j < w3.heap.size ∨ j = tb) u3 b (300 + 20 * (i + 1)) Fc G ∧ Qu.IsTree u3 tb (Gv.tT C 0 n0 n1 false) ∧ (∀ x, Fc x → Bm.Has M x) ∧ (n + 1) + (Bd.cnt Fc 1048576 : Int) = C ∧ (∀ x : Int, (G x).isSome = true ↔ ∃ j : Nat, x = (j : Int) ∧ Bm.Has M j ∧ ¬ Fc j) ∧ Below w3.heap.size w3 u3) := by
              obtain ⟨Fc, G, n0, n1, nm, hB, hT, hF, hc, hG, hb⟩ := HI3.out
              exact ⟨Fc, G, n0, n1, nm, hB.below hu, hT.below hu, hF, hc, hG, hb.trans (hu.mono hb.size)⟩
            have y0 : u3.cell? ⟨w.heap.size, 0, none⟩ = some (.int .i64 a2a) := ((BX.out.below BU2.out).below hu).cell 0
            have y1 : u3.cell? ⟨w.heap.size, 1, none⟩ = some (.int .i64 a2b) := ((BX.out.below BU2.out).below hu).cell 1
            have lw3 : w.heap.size < u3.heap.size := Bm.blk_lt ((BX.out.below BU2.out).below hu)
            clear HI3 BU2 SC hu
            by_cases ca : a2a ≤ (a : Int)
            · have d3 : decide (a2a ≤ (a : Int)) = true := by simp [ca]
              have d4 : decide ((a : Int) < a2b) = false := by
                simp only [decide_eq_false_iff_not]
                intro q
                exact nk ⟨ca, q⟩
              have d5 : ¬ (a : Int) < a2b := fun q => nk ⟨ca, q⟩
              clear nk
              go_wp2_with fail
              go_roundw
              case rel => exact ⟨i + 1, n + 1, by omega, ⟨by omega, by omega⟩, by go_num, by go_num, HI4⟩
              case measure => simp [Go.RowKit.intOf]; omega
            · have d3 : decide (a2a ≤ (a : Int)) = false := by simp; omega
              clear nk
              go_wp2_with fail
              go_roundw
              case rel => exact ⟨i + 1, n + 1, by omega, ⟨by omega, by omega⟩, by go_num, by go_num, HI4⟩
              case measure => simp [Go.RowKit.intOf]; omega
        · have tm : (i : Int).tmod 2 = 1 := by rw [show (2 : Int) = ((2 : Nat) : Int) from rfl, ← Int.ofNat_tmod, pi]; rfl
          clear pi
          as_aux_lemma =>
            obtain ⟨Fc, G, n0, n1, ⟨k0, k1, k2, k3, k4, k5⟩, hB, hT, hF, hc, hG, hb⟩ := hI.out
            by_cases cr : C - n0 - 0 < 1
            · have CH : Hid (Calls Try.prog 14 #[.pointer (some ⟨tb, 0, none⟩), .int .i64 0, .int .i64 1] wr fun e w' => e = .returned (.int .i64 8) ∧ (∃ (Fc : Nat → Prop) (G : Int → Option Int) (n0 n1 : Int), (0 ≤ n0 ∧ 0 ≤ n1 ∧ n = n0 + n1 ∧ n ≤ (i + 1) ∧ n0 + 0 ≤ C ∧ n1 ≤ 0) ∧ Bd.Bu (fun j => j < w3.heap.size ∨ j = tb) w' b (300 + 20 * (i + 1)) Fc G ∧ Qu.IsTree w' tb (Gv.tT C 0 n0 n1 false) ∧ (∀ x, Fc x → Bm.Has M x) ∧ n + (Bd.cnt Fc 1048576 : Int) = C ∧ (∀ x : Int, (G x).isSome = true ↔ ∃ j : Nat, x = (j : Int) ∧ Bm.Has M j ∧ ¬ Fc j) ∧ Below w3.heap.size w3 w')) := by
                have OKT : Qu.OkT (Gv.tT C 0 n0 n1 false) := Gv.tT_ok (by omega) (by omega) (by omega) (by omega) (by omega) (by omega) (by omega) (by omega)
                refine (Qu.charge_any tb _ OKT 0 1 wr hT).mono ?_
                rintro e w' ⟨he, hT2, hg⟩
                rw [Gv.may0 _ _ _ _ _ _ (by omega), if_pos cr] at he
                rw [Gv.charge0_no cr] at hT2
                refine ⟨he, Fc, G, n0, n1, ⟨k0, k1, k2, by omega, k4, k5⟩, ((hB.next hg.size (fun j hj nz => hg.block j hj (fun e => nz (Or.inr (by have := Option.some.inj e; omega))))).less (fun j h => Or.inl h)).mono (by omega), hT2, hF, hc, hG, ?_⟩
                exact hb.trans ⟨hg.os, hg.tape, hg.output, hg.size, fun j hj => hg.block j (Nat.lt_of_lt_of_le hj hb.size) (fun e => by have := LT.out; have := Option.some.inj e; omega)⟩
              clear hB hT hF hc hG hb hI k0 k1 k2 k3 k4 k5 cr
              go_wp2_with fail
              refine Calls.mono CH.out ?_
              rintro e u1 ⟨rfl, hI2⟩
              have HI2 : Hid (∃ (Fc : Nat → Prop) (G : Int → Option Int) (n0 n1 : Int), (0 ≤ n0 ∧ 0 ≤ n1 ∧ n = n0 + n1 ∧ n ≤ (i + 1) ∧ n0 + 0 ≤ C ∧ n1 ≤ 0) ∧ Bd.Bu (fun j => j < w3.heap.size ∨ j = tb) u1 b (300 + 20 * (i + 1)) Fc G ∧ Qu.IsTree u1 tb (Gv.tT C 0 n0 n1 false) ∧ (∀ x, Fc x → Bm.Has M x) ∧ n + (Bd.cnt Fc 1048576 : Int) = C ∧ (∀ x : Int, (G x).isSome = true ↔ ∃ j : Nat, x = (j : Int) ∧ Bm.Has M j ∧ ¬ Fc j) ∧ Below w3.heap.size w3 u1) := hI2
              clear hI2 CH
              go_wp2_with fail
              go_roundw
              case rel => exact ⟨i + 1, n, by omega, ⟨by omega, by omega⟩, by go_num, rfl, HI2⟩
              case measure => simp [Go.RowKit.intOf]; omega
            have CH : Hid (Calls Try.prog 14 #[.pointer (some ⟨tb, 0, none⟩), .int .i64 0, .int .i64 1] wr fun e u1 => e = .returned (.int .i64 0) ∧ (∃ (Fc : Nat → Prop) (G : Int → Option Int) (n0 n1 : Int), (0 ≤ (n0 + 1) ∧ 0 ≤ n1 ∧ n + 1 = (n0 + 1) + n1 ∧ n + 1 ≤ i + 1 ∧ (n0 + 1) + 0 ≤ C ∧ n1 ≤ 0) ∧ 0 < Bd.cnt Fc 1048576 ∧ Bd.Bu (fun j => j < w3.heap.size ∨ j = tb) u1 b (300 + 20 * i) Fc G ∧ Qu.IsTree u1 tb (Gv.tT C 0 (n0 + 1) n1 false) ∧ (∀ x, Fc x → Bm.Has M x) ∧ n + (Bd.cnt Fc 1048576 : Int) = C ∧ (∀ x : Int, (G x).isSome = true ↔ ∃ j : Nat, x = (j : Int) ∧ Bm.Has M j ∧ ¬ Fc j) ∧ Below w3.heap.size w3 u1)) := by
              have OKT : Qu.OkT (Gv.tT C 0 n0 n1 false) := Gv.tT_ok (by omega) (by omega) (by omega) (by omega) (by omega) (by omega) (by omega) (by omega)
              refine (Qu.charge_any tb _ OKT 0 1 wr hT).mono ?_
              rintro e w' ⟨he, hT2, hg⟩
              rw [Gv.may0 _ _ _ _ _ _ (by omega), if_neg cr] at he
              rw [Gv.charge0 cr] at hT2
              refine ⟨he, Fc, G, n0, n1, ⟨by omega, by omega, by omega, by omega, by omega, by omega⟩, by omega, ((hB.next hg.size (fun j hj nz => hg.block j hj (fun e => nz (Or.inr (by have := Option.some.inj e; omega))))).less (fun j h => Or.inl h)).mono (by omega), hT2, hF, hc, hG, ?_⟩
              exact hb.trans ⟨hg.os, hg.tape, hg.output, hg.size, fun j hj => hg.block j (Nat.lt_of_lt_of_le hj hb.size) (fun e => by have := LT.out; have := Option.some.inj e; omega)⟩
            clear hB hT hF hc hG hb hI k0 k1 k2 k3 k4 k5 cr
            go_wp2_with fail
            refine Calls.mono CH.out ?_
            rintro e u1 ⟨rfl, hI2⟩
            have HI2 : Hid (∃ (Fc : Nat → Prop) (G : Int → Option Int) (n0 n1 : Int), (0 ≤ (n0 + 1) ∧ 0 ≤ n1 ∧ n + 1 = (n0 + 1) + n1 ∧ n + 1 ≤ i + 1 ∧ (n0 + 1) + 0 ≤ C ∧ n1 ≤ 0) ∧ 0 < Bd.cnt Fc 1048576 ∧ Bd.Bu (fun j => j < w3.heap.size ∨ j = tb) u1 b (300 + 20 * i) Fc G ∧ Qu.IsTree u1 tb (Gv.tT C 0 (n0 + 1) n1 false) ∧ (∀ x, Fc x → Bm.Has M x) ∧ n + (Bd.cnt Fc 1048576 : Int) = C ∧ (∀ x : Int, (G x).isSome = true ↔ ∃ j : Nat, x = (j : Int) ∧ Bm.Has M j ∧ ¬ Fc j) ∧ Below w3.heap.size w3 u1) := hI2
            clear hI2 CH
            have TC : Hid (Calls Try.prog 15 #[.pointer (some ⟨b, 0, none⟩), .int .i64 0] u1 fun e w' => ∃ a : Nat, e = .returned (.tuple #[.int .i64 a, .int .i64 0]) ∧ Bm.Has M a ∧ (∃ (Fc : Nat → Prop) (G : Int → Option Int) (n0 n1 : Int), (0 ≤ n0 ∧ 0 ≤ n1 ∧ (n + 1) = n0 + n1 ∧ (n + 1) ≤ (i + 1) ∧ n0 + 0 ≤ C ∧ n1 ≤ 0) ∧ Bd.Bu (fun j => j < w3.heap.size ∨ j = tb) w' b (300 + 20 * (i + 1)) Fc G ∧ Qu.IsTree w' tb (Gv.tT C 0 n0 n1 false) ∧ (∀ x, Fc x → Bm.Has M x) ∧ (n + 1) + (Bd.cnt Fc 1048576 : Int) = C ∧ (∀ x : Int, (G x).isSome = true ↔ ∃ j : Nat, x = (j : Int) ∧ Bm.Has M j ∧ ¬ Fc j) ∧ Below w3.heap.size w3 w')) := by
              obtain ⟨Fc, G, n0, n1, nm, cp, hB, hT, hF, hc, hG, hb⟩ := HI2.out
              refine (hB.take 0 (by omega) (by omega)).mono ?_
              rintro e w' (⟨_, _, h⟩ | ⟨p, f, q, d, he, T, hB2, kf⟩)
              · exfalso
                obtain ⟨x, hx⟩ := Gv.cnt_some (F := Fc) (n := 1048576) (by omega)
                obtain ⟨k, q, hk, hcn⟩ := Gv.cn_some hx
                exact h k q (Nat.zero_le _) hk hcn
              · have Fp : Fc p := T.all p (by simp)
                have Rp := hF p Fp
                have e1 : ((p * 2 ^ 0 : Nat) : Int) = (p : Int) := by simp
                rw [e1] at he hB2
                have cn : Bd.cnt (fun i => Fc i ∧ ¬ i / 2 ^ 0 = p) 1048576 + 2 ^ 0 = Bd.cnt Fc 1048576 := by
                  have e := Bd.cnt_sub Fc (fun i => i / 2 ^ 0 = p) (fun i hi => T.all i hi) 1048576
                  rw [Bd.cnt_blk (by have := (HFB.out.1 p Rp).2.1; simp; omega)] at e
                  exact e
                have cn' : (Bd.cnt (fun i => Fc i ∧ ¬ i / 2 ^ 0 = p) 1048576 : Int) + 1 = Bd.cnt Fc 1048576 := by
                  rw [← cn]; simp
                refine ⟨p, he, Rp, _, _, (n0 + 1), n1, nm, hB2.mono (by omega), Gv.tree_block hT kf.size (kf.block tb hT.2.2 (fun h => h (Or.inr rfl))), fun x hx => hF x hx.1, by omega, fun x => ?_, ?_⟩
                · by_cases c : x = (p : Int)
                  · subst c
                    rw [Bd.set_same]
                    exact ⟨fun _ => ⟨p, rfl, Rp, fun h => h.2 (by simp)⟩, fun _ => rfl⟩
                  · rw [Bd.set_other _ _ _ _ c, hG]
                    constructor
                    · rintro ⟨j, e, h1, h2⟩; exact ⟨j, e, h1, fun h => h2 h.1⟩
                    · rintro ⟨j, e, h1, h2⟩
                      refine ⟨j, e, h1, fun h => h2 ⟨h, fun q => c ?_⟩⟩
                      simp at q
                      rw [e, q]
                · exact hb.trans ⟨kf.os, kf.tape, kf.output, kf.size, fun j hj => kf.block j (Nat.lt_of_lt_of_le hj hb.size) (fun h => h (Or.inl hj))⟩
            clear HI2
            go_wp2_with fail
            refine Calls.mono TC.out ?_
            rintro e u2 ⟨a, rfl, ha, hI3⟩
            have HI3 : Hid (∃ (Fc : Nat → Prop) (G : Int → Option Int) (n0 n1 : Int), (0 ≤ n0 ∧ 0 ≤ n1 ∧ (n + 1) = n0 + n1 ∧ (n + 1) ≤ (i + 1) ∧ n0 + 0 ≤ C ∧ n1 ≤ 0) ∧ Bd.Bu (fun j => j < w3.heap.size ∨ j = tb) u2 b (300 + 20 * (i + 1)) Fc G ∧ Qu.IsTree u2 tb (Gv.tT C 0 n0 n1 false) ∧ (∀ x, Fc x → Bm.Has M x) ∧ (n + 1) + (Bd.cnt Fc 1048576 : Int) = C ∧ (∀ x : Int, (G x).isSome = true ↔ ∃ j : Nat, x = (j : Int) ∧ Bm.Has M j ∧ ¬ Fc j) ∧ Below w3.heap.size w3 u2) := hI3
            have BU2 : Hid (Below w3.heap.size w3 u2) := by
              obtain ⟨Fc, G, n0, n1, nm, hB, hT, hF, hc, hG, hb⟩ := hI3
              exact hb
            have SC : Hid _ := Bm.some_any 0 (.slice (some ⟨g, 0, none⟩) m cm) M a true ⟨fun _ => ha, fun _ => rfl⟩ (by have := HM.out.1; have := HM.out.2; omega) u2 (RM.out.below BU2.out)
            have nk := (HFB.out.1 a ha).2.2
            clear hI3 TC ha
            go_wp2_with fail
            refine Calls.mono SC.out ?_
            rintro e u3 ⟨rfl, hu⟩
            have HI4 : Hid (∃ (Fc : Nat → Prop) (G : Int → Option Int) (n0 n1 : Int), (0 ≤ n0 ∧ 0 ≤ n1 ∧ (n + 1) = n0 + n1 ∧ (n + 1) ≤ (i + 1) ∧ n0 + 0 ≤ C ∧ n1 ≤ 0) ∧ Bd.Bu (fun j => j < w3.heap.size ∨ j = tb) u3 b (300 + 20 * (i + 1)) Fc G ∧ Qu.IsTree u3 tb (Gv.tT C 0 n0 n1 false) ∧ (∀ x, Fc x → Bm.Has M x) ∧ (n + 1) + (Bd.cnt Fc 1048576 : Int) = C ∧ (∀ x : Int, (G x).isSome = true ↔ ∃ j : Nat, x = (j : Int) ∧ Bm.Has M j ∧ ¬ Fc j) ∧ Below w3.heap.size w3 u3) := by
              obtain ⟨Fc, G, n0, n1, nm, hB, hT, hF, hc, hG, hb⟩ := HI3.out
              exact ⟨Fc, G, n0, n1, nm, hB.below hu, hT.below hu, hF, hc, hG, hb.trans (hu.mono hb.size)⟩
            have y0 : u3.cell? ⟨w.heap.size, 0, none⟩ = some (.int .i64 a2a) := ((BX.out.below BU2.out).below hu).cell 0
            have y1 : u3.cell? ⟨w.heap.size, 1, none⟩ = some (.int .i64 a2b) := ((BX.out.below BU2.out).below hu).cell 1
            have lw3 : w.heap.size < u3.heap.size := Bm.blk_lt ((BX.out.below BU2.out).below hu)
            clear HI3 BU2 SC hu
            by_cases ca : a2a ≤ (a : Int)
            · have d3 : decide (a2a ≤ (a : Int)) = true := by simp [ca]
              have d4 : decide ((a : Int) < a2b) = false := by
                simp only [decide_eq_false_iff_not]
                intro q
                exact nk ⟨ca, q⟩
              have d5 : ¬ (a : Int) < a2b := fun q => nk ⟨ca, q⟩
              clear nk
              go_wp2_with fail
              go_roundw
              case rel => exact ⟨i + 1, n + 1, by omega, ⟨by omega, by omega⟩, by go_num, by go_num, HI4⟩
              case measure => simp [Go.RowKit.intOf]; omega
            · have d3 : decide (a2a ≤ (a : Int)) = false := by simp; omega
              clear nk
              go_wp2_with fail
              go_roundw
              case rel => exact ⟨i + 1, n + 1, by omega, ⟨by omega, by omega⟩, by go_num, by go_num, HI4⟩
              case measure => simp [Go.RowKit.intOf]; omega
    · have g1 : decide ((0 : Int) ≤ a3) = true := by simp; omega
      have g2 : decide (a3 ≤ C) = false := by simp; omega
      go_wp2_with fail
      refine Calls.mono (FC.out w7 HB8.out) ?_
      rintro e w8 ⟨rfl, rfl⟩
      clear FC HB8
      go_wp2_with fail
      go_loopw [19, 20, 21, 22, 23] (fun vn vi _ _ _ W => ∃ (i : Nat) (n : Int), i ≤ 310 ∧ (0 ≤ n ∧ n ≤ (i : Int)) ∧ vi = .int .i64 i ∧ vn = .int .i64 n ∧ Hid (∃ (Fc : Nat → Prop) (G : Int → Option Int) (n0 n1 : Int), (0 ≤ n0 ∧ 0 ≤ n1 ∧ n = n0 + n1 ∧ n ≤ i ∧ n0 + 0 ≤ C ∧ n1 ≤ 0) ∧ Bd.Bu (fun j => j < w3.heap.size ∨ j = tb) W b (300 + 20 * i) Fc G ∧ Qu.IsTree W tb (Gv.tT C 0 n0 n1 false) ∧ (∀ x, Fc x → Bm.Has M x) ∧ n + (Bd.cnt Fc 1048576 : Int) = C ∧ (∀ x : Int, (G x).isSome = true ↔ ∃ j : Nat, x = (j : Int) ∧ Bm.Has M j ∧ ¬ Fc j) ∧ Below w3.heap.size w3 W)) (fun _ vi _ _ _ _ => 310 - (Go.RowKit.intOf vi).toNat)
      case atStart => exact ⟨0, 0, by omega, ⟨by omega, by omega⟩, rfl, rfl, J0⟩
      case round =>
        clear J0
        obtain ⟨i, n, hi, ⟨n0', n1'⟩, rfl, rfl, hI⟩ := hrel
        by_cases ci : i < 310
        rotate_left
        · obtain rfl : i = 310 := by omega
          rw [show ((310 : Nat) : Int) = (310 : Int) from rfl]
          as_aux_lemma =>
            obtain ⟨Fc, G, n0, n1, ⟨k0, k1, k2, k3, k4, k5⟩, hB, hT, hF, hc, hG, hb⟩ := hI.out
            have GC : Hid (Calls Try.prog 17 #[.pointer (some ⟨b, 0, none⟩)] wr fun e w' => ∃ p c, ∃ l : Nat, e = .returned (.slice p l c) ∧ (l : Int) = n ∧ Below wr.heap.size wr w') := by
              refine (hB.given (by omega)).mono ?_
              rintro e w' ⟨v, L, he, hA, hM, hO, hb2⟩
              obtain ⟨p, c, hv⟩ : ∃ p c, v = .slice p L.length c := by
                obtain ⟨_, ⟨hv, h0⟩ | ⟨g, cap, cur, hv, _⟩⟩ := hO
                · exact ⟨none, 0, by rw [hv, h0]⟩
                · exact ⟨_, _, hv⟩
              refine ⟨p, c, L.length, by rw [he, hv], ?_, hb2⟩
              have e2 : L.length = Bd.cnt (fun j : Nat => Bm.Has M j ∧ ¬ Fc j) 1048576 := Gv.cnt_keys (fun x hx => by have := (HFB.out.1 x hx.1).2.1; omega) hA (fun x => by
                rw [hM, hG])
              have e3 := Bd.cnt_sub (fun j : Nat => Bm.Has M j) Fc hF 1048576
              have e4 := HC.out
              rw [e2]
              omega
            have RC : Hid (∀ W', Below wr.heap.size wr W' → Calls Try.prog 18 #[.pointer (some ⟨tb, 0, none⟩), .int .i64 0] W' fun e w' => e = .returned (.int .i64 (C - n0 - 0)) ∧ Below W'.heap.size W' w') := fun W' hb' => by
              have r := Qu.room_any tb _ (Gv.tT_ok      (by omega) (by omega) (by omega) (by omega) (by omega) (by omega) (by omega) (by omega)) 0 W' (hT.below hb')
              rw [Gv.getN0, Gv.tT0] at r
              exact r
            have FC : Hid (∀ W', Below wr.heap.size wr W' → Calls Try.prog 11 #[.pointer (some ⟨b, 0, none⟩)] W' fun e w' => e = .returned (.int .i64 (C - n)) ∧ w' = W') := fun W' hb' => by
              have r := (hB.below hb').free
              rw [show (Bd.cnt Fc 1048576 : Int) = C - n by omega] at r
              exact r
            have HBW : Hid (Below w3.heap.size w3 wr) := hb
            have e1 : decide ((0 : Int) ≤ C - n0 - 0) = true := by simp; omega
            have e2 : decide (C - n0 - 0 ≤ C - n) = true := by simp; omega
            clear hB hT hF hc hG hb hI k0 k1 k2 k3 k4 k5
            generalize C - n0 - 0 = rm at *
            generalize C - n = fr at *
            go_wp2_with fail
            refine Calls.mono GC.out ?_
            rintro e u1 ⟨p, c, l, rfl, hl, hu1⟩
            have B1 : Hid (Below wr.heap.size wr u1) := hu1
            have e3 : ((l : Int) == n) = true := by simp [hl]
            clear hu1 GC
            subst hl
            go_wp2_with fail
            refine Calls.mono (RC.out u1 B1.out) ?_
            rintro e u2 ⟨rfl, hu2⟩
            have B2 : Hid (Below wr.heap.size wr u2) := below_then B1.out hu2
            clear hu2
            go_wp2_with fail
            refine Calls.mono (FC.out u2 B2.out) ?_
            rintro e u3 ⟨rfl, rfl⟩
            go_wp2_with fail
            refine Calls.mono (RC.out u3 B2.out) ?_
            rintro e u4 ⟨rfl, hu4⟩
            have B4 : Hid (Below w.heap.size w u4) := below_then BW.out (HBW.out.trans ((below_then B2.out hu4).mono HBW.out.size))
            clear hu4
            go_wp2_with fail
            go_ret
            exact ⟨rfl, B4.out⟩
        have di : decide ((i : Int) < 310) = true := by simp; omega
        rcases (show i % 2 = 0 ∨ i % 2 = 1 by omega) with pi | pi
        · have tm : (i : Int).tmod 2 = 0 := by rw [show (2 : Int) = ((2 : Nat) : Int) from rfl, ← Int.ofNat_tmod, pi]; rfl
          clear pi
          as_aux_lemma =>
            obtain ⟨Fc, G, n0, n1, ⟨k0, k1, k2, k3, k4, k5⟩, hB, hT, hF, hc, hG, hb⟩ := hI.out
            by_cases cr : C - n0 - 0 < 1
            · have CH : Hid (Calls Try.prog 14 #[.pointer (some ⟨tb, 0, none⟩), .int .i64 0, .int .i64 1] wr fun e w' => e = .returned (.int .i64 8) ∧ (∃ (Fc : Nat → Prop) (G : Int → Option Int) (n0 n1 : Int), (0 ≤ n0 ∧ 0 ≤ n1 ∧ n = n0 + n1 ∧ n ≤ (i + 1) ∧ n0 + 0 ≤ C ∧ n1 ≤ 0) ∧ Bd.Bu (fun j => j < w3.heap.size ∨ j = tb) w' b (300 + 20 * (i + 1)) Fc G ∧ Qu.IsTree w' tb (Gv.tT C 0 n0 n1 false) ∧ (∀ x, Fc x → Bm.Has M x) ∧ n + (Bd.cnt Fc 1048576 : Int) = C ∧ (∀ x : Int, (G x).isSome = true ↔ ∃ j : Nat, x = (j : Int) ∧ Bm.Has M j ∧ ¬ Fc j) ∧ Below w3.heap.size w3 w')) := by
                have OKT : Qu.OkT (Gv.tT C 0 n0 n1 false) := Gv.tT_ok (by omega) (by omega) (by omega) (by omega) (by omega) (by omega) (by omega) (by omega)
                refine (Qu.charge_any tb _ OKT 0 1 wr hT).mono ?_
                rintro e w' ⟨he, hT2, hg⟩
                rw [Gv.may0 _ _ _ _ _ _ (by omega), if_pos cr] at he
                rw [Gv.charge0_no cr] at hT2
                refine ⟨he, Fc, G, n0, n1, ⟨k0, k1, k2, by omega, k4, k5⟩, ((hB.next hg.size (fun j hj nz => hg.block j hj (fun e => nz (Or.inr (by have := Option.some.inj e; omega))))).less (fun j h => Or.inl h)).mono (by omega), hT2, hF, hc, hG, ?_⟩
                exact hb.trans ⟨hg.os, hg.tape, hg.output, hg.size, fun j hj => hg.block j (Nat.lt_of_lt_of_le hj hb.size) (fun e => by have := LT.out; have := Option.some.inj e; omega)⟩
              clear hB hT hF hc hG hb hI k0 k1 k2 k3 k4 k5 cr
              go_wp2_with fail
              refine Calls.mono CH.out ?_
              rintro e u1 ⟨rfl, hI2⟩
              have HI2 : Hid (∃ (Fc : Nat → Prop) (G : Int → Option Int) (n0 n1 : Int), (0 ≤ n0 ∧ 0 ≤ n1 ∧ n = n0 + n1 ∧ n ≤ (i + 1) ∧ n0 + 0 ≤ C ∧ n1 ≤ 0) ∧ Bd.Bu (fun j => j < w3.heap.size ∨ j = tb) u1 b (300 + 20 * (i + 1)) Fc G ∧ Qu.IsTree u1 tb (Gv.tT C 0 n0 n1 false) ∧ (∀ x, Fc x → Bm.Has M x) ∧ n + (Bd.cnt Fc 1048576 : Int) = C ∧ (∀ x : Int, (G x).isSome = true ↔ ∃ j : Nat, x = (j : Int) ∧ Bm.Has M j ∧ ¬ Fc j) ∧ Below w3.heap.size w3 u1) := hI2
              clear hI2 CH
              go_wp2_with fail
              go_roundw
              case rel => exact ⟨i + 1, n, by omega, ⟨by omega, by omega⟩, by go_num, rfl, HI2⟩
              case measure => simp [Go.RowKit.intOf]; omega
            have CH : Hid (Calls Try.prog 14 #[.pointer (some ⟨tb, 0, none⟩), .int .i64 0, .int .i64 1] wr fun e u1 => e = .returned (.int .i64 0) ∧ (∃ (Fc : Nat → Prop) (G : Int → Option Int) (n0 n1 : Int), (0 ≤ (n0 + 1) ∧ 0 ≤ n1 ∧ n + 1 = (n0 + 1) + n1 ∧ n + 1 ≤ i + 1 ∧ (n0 + 1) + 0 ≤ C ∧ n1 ≤ 0) ∧ 0 < Bd.cnt Fc 1048576 ∧ Bd.Bu (fun j => j < w3.heap.size ∨ j = tb) u1 b (300 + 20 * i) Fc G ∧ Qu.IsTree u1 tb (Gv.tT C 0 (n0 + 1) n1 false) ∧ (∀ x, Fc x → Bm.Has M x) ∧ n + (Bd.cnt Fc 1048576 : Int) = C ∧ (∀ x : Int, (G x).isSome = true ↔ ∃ j : Nat, x = (j : Int) ∧ Bm.Has M j ∧ ¬ Fc j) ∧ Below w3.heap.size w3 u1)) := by
              have OKT : Qu.OkT (Gv.tT C 0 n0 n1 false) := Gv.tT_ok (by omega) (by omega) (by omega) (by omega) (by omega) (by omega) (by omega) (by omega)
              refine (Qu.charge_any tb _ OKT 0 1 wr hT).mono ?_
              rintro e w' ⟨he, hT2, hg⟩
              rw [Gv.may0 _ _ _ _ _ _ (by omega), if_neg cr] at he
              rw [Gv.charge0 cr] at hT2
              refine ⟨he, Fc, G, n0, n1, ⟨by omega, by omega, by omega, by omega, by omega, by omega⟩, by omega, ((hB.next hg.size (fun j hj nz => hg.block j hj (fun e => nz (Or.inr (by have := Option.some.inj e; omega))))).less (fun j h => Or.inl h)).mono (by omega), hT2, hF, hc, hG, ?_⟩
              exact hb.trans ⟨hg.os, hg.tape, hg.output, hg.size, fun j hj => hg.block j (Nat.lt_of_lt_of_le hj hb.size) (fun e => by have := LT.out; have := Option.some.inj e; omega)⟩
            clear hB hT hF hc hG hb hI k0 k1 k2 k3 k4 k5 cr
            go_wp2_with fail
            refine Calls.mono CH.out ?_
            rintro e u1 ⟨rfl, hI2⟩
            have HI2 : Hid (∃ (Fc : Nat → Prop) (G : Int → Option Int) (n0 n1 : Int), (0 ≤ (n0 + 1) ∧ 0 ≤ n1 ∧ n + 1 = (n0 + 1) + n1 ∧ n + 1 ≤ i + 1 ∧ (n0 + 1) + 0 ≤ C ∧ n1 ≤ 0) ∧ 0 < Bd.cnt Fc 1048576 ∧ Bd.Bu (fun j => j < w3.heap.size ∨ j = tb) u1 b (300 + 20 * i) Fc G ∧ Qu.IsTree u1 tb (Gv.tT C 0 (n0 + 1) n1 false) ∧ (∀ x, Fc x → Bm.Has M x) ∧ n + (Bd.cnt Fc 1048576 : Int) = C ∧ (∀ x : Int, (G x).isSome = true ↔ ∃ j : Nat, x = (j : Int) ∧ Bm.Has M j ∧ ¬ Fc j) ∧ Below w3.heap.size w3 u1) := hI2
            clear hI2 CH
            have TC : Hid (Calls Try.prog 15 #[.pointer (some ⟨b, 0, none⟩), .int .i64 0] u1 fun e w' => ∃ a : Nat, e = .returned (.tuple #[.int .i64 a, .int .i64 0]) ∧ Bm.Has M a ∧ (∃ (Fc : Nat → Prop) (G : Int → Option Int) (n0 n1 : Int), (0 ≤ n0 ∧ 0 ≤ n1 ∧ (n + 1) = n0 + n1 ∧ (n + 1) ≤ (i + 1) ∧ n0 + 0 ≤ C ∧ n1 ≤ 0) ∧ Bd.Bu (fun j => j < w3.heap.size ∨ j = tb) w' b (300 + 20 * (i + 1)) Fc G ∧ Qu.IsTree w' tb (Gv.tT C 0 n0 n1 false) ∧ (∀ x, Fc x → Bm.Has M x) ∧ (n + 1) + (Bd.cnt Fc 1048576 : Int) = C ∧ (∀ x : Int, (G x).isSome = true ↔ ∃ j : Nat, x = (j : Int) ∧ Bm.Has M j ∧ ¬ Fc j) ∧ Below w3.heap.size w3 w')) := by
              obtain ⟨Fc, G, n0, n1, nm, cp, hB, hT, hF, hc, hG, hb⟩ := HI2.out
              refine (hB.take 0 (by omega) (by omega)).mono ?_
              rintro e w' (⟨_, _, h⟩ | ⟨p, f, q, d, he, T, hB2, kf⟩)
              · exfalso
                obtain ⟨x, hx⟩ := Gv.cnt_some (F := Fc) (n := 1048576) (by omega)
                obtain ⟨k, q, hk, hcn⟩ := Gv.cn_some hx
                exact h k q (Nat.zero_le _) hk hcn
              · have Fp : Fc p := T.all p (by simp)
                have Rp := hF p Fp
                have e1 : ((p * 2 ^ 0 : Nat) : Int) = (p : Int) := by simp
                rw [e1] at he hB2
                have cn : Bd.cnt (fun i => Fc i ∧ ¬ i / 2 ^ 0 = p) 1048576 + 2 ^ 0 = Bd.cnt Fc 1048576 := by
                  have e := Bd.cnt_sub Fc (fun i => i / 2 ^ 0 = p) (fun i hi => T.all i hi) 1048576
                  rw [Bd.cnt_blk (by have := (HFB.out.1 p Rp).2.1; simp; omega)] at e
                  exact e
                have cn' : (Bd.cnt (fun i => Fc i ∧ ¬ i / 2 ^ 0 = p) 1048576 : Int) + 1 = Bd.cnt Fc 1048576 := by
                  rw [← cn]; simp
                refine ⟨p, he, Rp, _, _, (n0 + 1), n1, nm, hB2.mono (by omega), Gv.tree_block hT kf.size (kf.block tb hT.2.2 (fun h => h (Or.inr rfl))), fun x hx => hF x hx.1, by omega, fun x => ?_, ?_⟩
                · by_cases c : x = (p : Int)
                  · subst c
                    rw [Bd.set_same]
                    exact ⟨fun _ => ⟨p, rfl, Rp, fun h => h.2 (by simp)⟩, fun _ => rfl⟩
                  · rw [Bd.set_other _ _ _ _ c, hG]
                    constructor
                    · rintro ⟨j, e, h1, h2⟩; exact ⟨j, e, h1, fun h => h2 h.1⟩
                    · rintro ⟨j, e, h1, h2⟩
                      refine ⟨j, e, h1, fun h => h2 ⟨h, fun q => c ?_⟩⟩
                      simp at q
                      rw [e, q]
                · exact hb.trans ⟨kf.os, kf.tape, kf.output, kf.size, fun j hj => kf.block j (Nat.lt_of_lt_of_le hj hb.size) (fun h => h (Or.inl hj))⟩
            clear HI2
            go_wp2_with fail
            refine Calls.mono TC.out ?_
            rintro e u2 ⟨a, rfl, ha, hI3⟩
            have HI3 : Hid (∃ (Fc : Nat → Prop) (G : Int → Option Int) (n0 n1 : Int), (0 ≤ n0 ∧ 0 ≤ n1 ∧ (n + 1) = n0 + n1 ∧ (n + 1) ≤ (i + 1) ∧ n0 + 0 ≤ C ∧ n1 ≤ 0) ∧ Bd.Bu (fun j => j < w3.heap.size ∨ j = tb) u2 b (300 + 20 * (i + 1)) Fc G ∧ Qu.IsTree u2 tb (Gv.tT C 0 n0 n1 false) ∧ (∀ x, Fc x → Bm.Has M x) ∧ (n + 1) + (Bd.cnt Fc 1048576 : Int) = C ∧ (∀ x : Int, (G x).isSome = true ↔ ∃ j : Nat, x = (j : Int) ∧ Bm.Has M j ∧ ¬ Fc j) ∧ Below w3.heap.size w3 u2) := hI3
            have BU2 : Hid (Below w3.heap.size w3 u2) := by
              obtain ⟨Fc, G, n0, n1, nm, hB, hT, hF, hc, hG, hb⟩ := hI3
              exact hb
            have SC : Hid _ := Bm.some_any 0 (.slice (some ⟨g, 0, none⟩) m cm) M a true ⟨fun _ => ha, fun _ => rfl⟩ (by have := HM.out.1; have := HM.out.2; omega) u2 (RM.out.below BU2.out)
            have nk := (HFB.out.1 a ha).2.2
            clear hI3 TC ha
            go_wp2_with fail
            refine Calls.mono SC.out ?_
            rintro e u3 ⟨rfl, hu⟩
            have HI4 : Hid (∃ (Fc : Nat → Prop) (G : Int → Option Int) (n0 n1 : Int), (0 ≤ n0 ∧ 0 ≤ n1 ∧ (n + 1) = n0 + n1 ∧ (n + 1) ≤ (i + 1) ∧ n0 + 0 ≤ C ∧ n1 ≤ 0) ∧ Bd.Bu (fun j => j < w3.heap.size ∨ j = tb) u3 b (300 + 20 * (i + 1)) Fc G ∧ Qu.IsTree u3 tb (Gv.tT C 0 n0 n1 false) ∧ (∀ x, Fc x → Bm.Has M x) ∧ (n + 1) + (Bd.cnt Fc 1048576 : Int) = C ∧ (∀ x : Int, (G x).isSome = true ↔ ∃ j : Nat, x = (j : Int) ∧ Bm.Has M j ∧ ¬ Fc j) ∧ Below w3.heap.size w3 u3) := by
              obtain ⟨Fc, G, n0, n1, nm, hB, hT, hF, hc, hG, hb⟩ := HI3.out
              exact ⟨Fc, G, n0, n1, nm, hB.below hu, hT.below hu, hF, hc, hG, hb.trans (hu.mono hb.size)⟩
            have y0 : u3.cell? ⟨w.heap.size, 0, none⟩ = some (.int .i64 a2a) := ((BX.out.below BU2.out).below hu).cell 0
            have y1 : u3.cell? ⟨w.heap.size, 1, none⟩ = some (.int .i64 a2b) := ((BX.out.below BU2.out).below hu).cell 1
            have lw3 : w.heap.size < u3.heap.size := Bm.blk_lt ((BX.out.below BU2.out).below hu)
            clear HI3 BU2 SC hu
            by_cases ca : a2a ≤ (a : Int)
            · have d3 : decide (a2a ≤ (a : Int)) = true := by simp [ca]
              have d4 : decide ((a : Int) < a2b) = false := by
                simp only [decide_eq_false_iff_not]
                intro q
                exact nk ⟨ca, q⟩
              have d5 : ¬ (a : Int) < a2b := fun q => nk ⟨ca, q⟩
              clear nk
              go_wp2_with fail
              go_roundw
              case rel => exact ⟨i + 1, n + 1, by omega, ⟨by omega, by omega⟩, by go_num, by go_num, HI4⟩
              case measure => simp [Go.RowKit.intOf]; omega
            · have d3 : decide (a2a ≤ (a : Int)) = false := by simp; omega
              clear nk
              go_wp2_with fail
              go_roundw
              case rel => exact ⟨i + 1, n + 1, by omega, ⟨by omega, by omega⟩, by go_num, by go_num, HI4⟩
              case measure => simp [Go.RowKit.intOf]; omega
        · have tm : (i : Int).tmod 2 = 1 := by rw [show (2 : Int) = ((2 : Nat) : Int) from rfl, ← Int.ofNat_tmod, pi]; rfl
          clear pi
          as_aux_lemma =>
            obtain ⟨Fc, G, n0, n1, ⟨k0, k1, k2, k3, k4, k5⟩, hB, hT, hF, hc, hG, hb⟩ := hI.out
            by_cases cr : C - n0 - 0 < 1
            · have CH : Hid (Calls Try.prog 14 #[.pointer (some ⟨tb, 0, none⟩), .int .i64 0, .int .i64 1] wr fun e w' => e = .returned (.int .i64 8) ∧ (∃ (Fc : Nat → Prop) (G : Int → Option Int) (n0 n1 : Int), (0 ≤ n0 ∧ 0 ≤ n1 ∧ n = n0 + n1 ∧ n ≤ (i + 1) ∧ n0 + 0 ≤ C ∧ n1 ≤ 0) ∧ Bd.Bu (fun j => j < w3.heap.size ∨ j = tb) w' b (300 + 20 * (i + 1)) Fc G ∧ Qu.IsTree w' tb (Gv.tT C 0 n0 n1 false) ∧ (∀ x, Fc x → Bm.Has M x) ∧ n + (Bd.cnt Fc 1048576 : Int) = C ∧ (∀ x : Int, (G x).isSome = true ↔ ∃ j : Nat, x = (j : Int) ∧ Bm.Has M j ∧ ¬ Fc j) ∧ Below w3.heap.size w3 w')) := by
                have OKT : Qu.OkT (Gv.tT C 0 n0 n1 false) := Gv.tT_ok (by omega) (by omega) (by omega) (by omega) (by omega) (by omega) (by omega) (by omega)
                refine (Qu.charge_any tb _ OKT 0 1 wr hT).mono ?_
                rintro e w' ⟨he, hT2, hg⟩
                rw [Gv.may0 _ _ _ _ _ _ (by omega), if_pos cr] at he
                rw [Gv.charge0_no cr] at hT2
                refine ⟨he, Fc, G, n0, n1, ⟨k0, k1, k2, by omega, k4, k5⟩, ((hB.next hg.size (fun j hj nz => hg.block j hj (fun e => nz (Or.inr (by have := Option.some.inj e; omega))))).less (fun j h => Or.inl h)).mono (by omega), hT2, hF, hc, hG, ?_⟩
                exact hb.trans ⟨hg.os, hg.tape, hg.output, hg.size, fun j hj => hg.block j (Nat.lt_of_lt_of_le hj hb.size) (fun e => by have := LT.out; have := Option.some.inj e; omega)⟩
              clear hB hT hF hc hG hb hI k0 k1 k2 k3 k4 k5 cr
              go_wp2_with fail
              refine Calls.mono CH.out ?_
              rintro e u1 ⟨rfl, hI2⟩
              have HI2 : Hid (∃ (Fc : Nat → Prop) (G : Int → Option Int) (n0 n1 : Int), (0 ≤ n0 ∧ 0 ≤ n1 ∧ n = n0 + n1 ∧ n ≤ (i + 1) ∧ n0 + 0 ≤ C ∧ n1 ≤ 0) ∧ Bd.Bu (fun j => j < w3.heap.size ∨ j = tb) u1 b (300 + 20 * (i + 1)) Fc G ∧ Qu.IsTree u1 tb (Gv.tT C 0 n0 n1 false) ∧ (∀ x, Fc x → Bm.Has M x) ∧ n + (Bd.cnt Fc 1048576 : Int) = C ∧ (∀ x : Int, (G x).isSome = true ↔ ∃ j : Nat, x = (j : Int) ∧ Bm.Has M j ∧ ¬ Fc j) ∧ Below w3.heap.size w3 u1) := hI2
              clear hI2 CH
              go_wp2_with fail
              go_roundw
              case rel => exact ⟨i + 1, n, by omega, ⟨by omega, by omega⟩, by go_num, rfl, HI2⟩
              case measure => simp [Go.RowKit.intOf]; omega
            have CH : Hid (Calls Try.prog 14 #[.pointer (some ⟨tb, 0, none⟩), .int .i64 0, .int .i64 1] wr fun e u1 => e = .returned (.int .i64 0) ∧ (∃ (Fc : Nat → Prop) (G : Int → Option Int) (n0 n1 : Int), (0 ≤ (n0 + 1) ∧ 0 ≤ n1 ∧ n + 1 = (n0 + 1) + n1 ∧ n + 1 ≤ i + 1 ∧ (n0 + 1) + 0 ≤ C ∧ n1 ≤ 0) ∧ 0 < Bd.cnt Fc 1048576 ∧ Bd.Bu (fun j => j < w3.heap.size ∨ j = tb) u1 b (300 + 20 * i) Fc G ∧ Qu.IsTree u1 tb (Gv.tT C 0 (n0 + 1) n1 false) ∧ (∀ x, Fc x → Bm.Has M x) ∧ n + (Bd.cnt Fc 1048576 : Int) = C ∧ (∀ x : Int, (G x).isSome = true ↔ ∃ j : Nat, x = (j : Int) ∧ Bm.Has M j ∧ ¬ Fc j) ∧ Below w3.heap.size w3 u1)) := by
              have OKT : Qu.OkT (Gv.tT C 0 n0 n1 false) := Gv.tT_ok (by omega) (by omega) (by omega) (by omega) (by omega) (by omega) (by omega) (by omega)
              refine (Qu.charge_any tb _ OKT 0 1 wr hT).mono ?_
              rintro e w' ⟨he, hT2, hg⟩
              rw [Gv.may0 _ _ _ _ _ _ (by omega), if_neg cr] at he
              rw [Gv.charge0 cr] at hT2
              refine ⟨he, Fc, G, n0, n1, ⟨by omega, by omega, by omega, by omega, by omega, by omega⟩, by omega, ((hB.next hg.size (fun j hj nz => hg.block j hj (fun e => nz (Or.inr (by have := Option.some.inj e; omega))))).less (fun j h => Or.inl h)).mono (by omega), hT2, hF, hc, hG, ?_⟩
              exact hb.trans ⟨hg.os, hg.tape, hg.output, hg.size, fun j hj => hg.block j (Nat.lt_of_lt_of_le hj hb.size) (fun e => by have := LT.out; have := Option.some.inj e; omega)⟩
            clear hB hT hF hc hG hb hI k0 k1 k2 k3 k4 k5 cr
            go_wp2_with fail
            refine Calls.mono CH.out ?_
            rintro e u1 ⟨rfl, hI2⟩
            have HI2 : Hid (∃ (Fc : Nat → Prop) (G : Int → Option Int) (n0 n1 : Int), (0 ≤ (n0 + 1) ∧ 0 ≤ n1 ∧ n + 1 = (n0 + 1) + n1 ∧ n + 1 ≤ i + 1 ∧ (n0 + 1) + 0 ≤ C ∧ n1 ≤ 0) ∧ 0 < Bd.cnt Fc 1048576 ∧ Bd.Bu (fun j => j < w3.heap.size ∨ j = tb) u1 b (300 + 20 * i) Fc G ∧ Qu.IsTree u1 tb (Gv.tT C 0 (n0 + 1) n1 false) ∧ (∀ x, Fc x → Bm.Has M x) ∧ n + (Bd.cnt Fc 1048576 : Int) = C ∧ (∀ x : Int, (G x).isSome = true ↔ ∃ j : Nat, x = (j : Int) ∧ Bm.Has M j ∧ ¬ Fc j) ∧ Below w3.heap.size w3 u1) := hI2
            clear hI2 CH
            have TC : Hid (Calls Try.prog 15 #[.pointer (some ⟨b, 0, none⟩), .int .i64 0] u1 fun e w' => ∃ a : Nat, e = .returned (.tuple #[.int .i64 a, .int .i64 0]) ∧ Bm.Has M a ∧ (∃ (Fc : Nat → Prop) (G : Int → Option Int) (n0 n1 : Int), (0 ≤ n0 ∧ 0 ≤ n1 ∧ (n + 1) = n0 + n1 ∧ (n + 1) ≤ (i + 1) ∧ n0 + 0 ≤ C ∧ n1 ≤ 0) ∧ Bd.Bu (fun j => j < w3.heap.size ∨ j = tb) w' b (300 + 20 * (i + 1)) Fc G ∧ Qu.IsTree w' tb (Gv.tT C 0 n0 n1 false) ∧ (∀ x, Fc x → Bm.Has M x) ∧ (n + 1) + (Bd.cnt Fc 1048576 : Int) = C ∧ (∀ x : Int, (G x).isSome = true ↔ ∃ j : Nat, x = (j : Int) ∧ Bm.Has M j ∧ ¬ Fc j) ∧ Below w3.heap.size w3 w')) := by
              obtain ⟨Fc, G, n0, n1, nm, cp, hB, hT, hF, hc, hG, hb⟩ := HI2.out
              refine (hB.take 0 (by omega) (by omega)).mono ?_
              rintro e w' (⟨_, _, h⟩ | ⟨p, f, q, d, he, T, hB2, kf⟩)
              · exfalso
                obtain ⟨x, hx⟩ := Gv.cnt_some (F := Fc) (n := 1048576) (by omega)
                obtain ⟨k, q, hk, hcn⟩ := Gv.cn_some hx
                exact h k q (Nat.zero_le _) hk hcn
              · have Fp : Fc p := T.all p (by simp)
                have Rp := hF p Fp
                have e1 : ((p * 2 ^ 0 : Nat) : Int) = (p : Int) := by simp
                rw [e1] at he hB2
                have cn : Bd.cnt (fun i => Fc i ∧ ¬ i / 2 ^ 0 = p) 1048576 + 2 ^ 0 = Bd.cnt Fc 1048576 := by
                  have e := Bd.cnt_sub Fc (fun i => i / 2 ^ 0 = p) (fun i hi => T.all i hi) 1048576
                  rw [Bd.cnt_blk (by have := (HFB.out.1 p Rp).2.1; simp; omega)] at e
                  exact e
                have cn' : (Bd.cnt (fun i => Fc i ∧ ¬ i / 2 ^ 0 = p) 1048576 : Int) + 1 = Bd.cnt Fc 1048576 := by
                  rw [← cn]; simp
                refine ⟨p, he, Rp, _, _, (n0 + 1), n1, nm, hB2.mono (by omega), Gv.tree_block hT kf.size (kf.block tb hT.2.2 (fun h => h (Or.inr rfl))), fun x hx => hF x hx.1, by omega, fun x => ?_, ?_⟩
                · by_cases c : x = (p : Int)
                  · subst c
                    rw [Bd.set_same]
                    exact ⟨fun _ => ⟨p, rfl, Rp, fun h => h.2 (by simp)⟩, fun _ => rfl⟩
                  · rw [Bd.set_other _ _ _ _ c, hG]
                    constructor
                    · rintro ⟨j, e, h1, h2⟩; exact ⟨j, e, h1, fun h => h2 h.1⟩
                    · rintro ⟨j, e, h1, h2⟩
                      refine ⟨j, e, h1, fun h => h2 ⟨h, fun q => c ?_⟩⟩
                      simp at q
                      rw [e, q]
                · exact hb.trans ⟨kf.os, kf.tape, kf.output, kf.size, fun j hj => kf.block j (Nat.lt_of_lt_of_le hj hb.size) (fun h => h (Or.inl hj))⟩
            clear HI2
            go_wp2_with fail
            refine Calls.mono TC.out ?_
            rintro e u2 ⟨a, rfl, ha, hI3⟩
            have HI3 : Hid (∃ (Fc : Nat → Prop) (G : Int → Option Int) (n0 n1 : Int), (0 ≤ n0 ∧ 0 ≤ n1 ∧ (n + 1) = n0 + n1 ∧ (n + 1) ≤ (i + 1) ∧ n0 + 0 ≤ C ∧ n1 ≤ 0) ∧ Bd.Bu (fun j => j < w3.heap.size ∨ j = tb) u2 b (300 + 20 * (i + 1)) Fc G ∧ Qu.IsTree u2 tb (Gv.tT C 0 n0 n1 false) ∧ (∀ x, Fc x → Bm.Has M x) ∧ (n + 1) + (Bd.cnt Fc 1048576 : Int) = C ∧ (∀ x : Int, (G x).isSome = true ↔ ∃ j : Nat, x = (j : Int) ∧ Bm.Has M j ∧ ¬ Fc j) ∧ Below w3.heap.size w3 u2) := hI3
            have BU2 : Hid (Below w3.heap.size w3 u2) := by
              obtain ⟨Fc, G, n0, n1, nm, hB, hT, hF, hc, hG, hb⟩ := hI3
              exact hb
            have SC : Hid _ := Bm.some_any 0 (.slice (some ⟨g, 0, none⟩) m cm) M a true ⟨fun _ => ha, fun _ => rfl⟩ (by have := HM.out.1; have := HM.out.2; omega) u2 (RM.out.below BU2.out)
            have nk := (HFB.out.1 a ha).2.2
            clear hI3 TC ha
            go_wp2_with fail
            refine Calls.mono SC.out ?_
            rintro e u3 ⟨rfl, hu⟩
            have HI4 : Hid (∃ (Fc : Nat → Prop) (G : Int → Option Int) (n0 n1 : Int), (0 ≤ n0 ∧ 0 ≤ n1 ∧ (n + 1) = n0 + n1 ∧ (n + 1) ≤ (i + 1) ∧ n0 + 0 ≤ C ∧ n1 ≤ 0) ∧ Bd.Bu (fun j => j < w3.heap.size ∨ j = tb) u3 b (300 + 20 * (i + 1)) Fc G ∧ Qu.IsTree u3 tb (Gv.tT C 0 n0 n1 false) ∧ (∀ x, Fc x → Bm.Has M x) ∧ (n + 1) + (Bd.cnt Fc 1048576 : Int) = C ∧ (∀ x : Int, (G x).isSome = true ↔ ∃ j : Nat, x = (j : Int) ∧ Bm.Has M j ∧ ¬ Fc j) ∧ Below w3.heap.size w3 u3) := by
              obtain ⟨Fc, G, n0, n1, nm, hB, hT, hF, hc, hG, hb⟩ := HI3.out
              exact ⟨Fc, G, n0, n1, nm, hB.below hu, hT.below hu, hF, hc, hG, hb.trans (hu.mono hb.size)⟩
            have y0 : u3.cell? ⟨w.heap.size, 0, none⟩ = some (.int .i64 a2a) := ((BX.out.below BU2.out).below hu).cell 0
            have y1 : u3.cell? ⟨w.heap.size, 1, none⟩ = some (.int .i64 a2b) := ((BX.out.below BU2.out).below hu).cell 1
            have lw3 : w.heap.size < u3.heap.size := Bm.blk_lt ((BX.out.below BU2.out).below hu)
            clear HI3 BU2 SC hu
            by_cases ca : a2a ≤ (a : Int)
            · have d3 : decide (a2a ≤ (a : Int)) = true := by simp [ca]
              have d4 : decide ((a : Int) < a2b) = false := by
                simp only [decide_eq_false_iff_not]
                intro q
                exact nk ⟨ca, q⟩
              have d5 : ¬ (a : Int) < a2b := fun q => nk ⟨ca, q⟩
              clear nk
              go_wp2_with fail
              go_roundw
              case rel => exact ⟨i + 1, n + 1, by omega, ⟨by omega, by omega⟩, by go_num, by go_num, HI4⟩
              case measure => simp [Go.RowKit.intOf]; omega
            · have d3 : decide (a2a ≤ (a : Int)) = false := by simp; omega
              clear nk
              go_wp2_with fail
              go_roundw
              case rel => exact ⟨i + 1, n + 1, by omega, ⟨by omega, by omega⟩, by go_num, by go_num, HI4⟩
              case measure => simp [Go.RowKit.intOf]; omega

theorem own : ownKnob Try.prog.godebug = none := by kernel_rfl
theorem laidOut : laidOutB Try.prog = true := by kernel_rfl
set_option maxRecDepth 100000 in
theorem lifted (os : Os) (started : os.Started) (H : Type) (enc : TypeId × Value → H) :
    ReturnsInHanded {} Try.checked os 4 .any (Rows.demesneGivenSpec.pre6 enc Try.prog Try.f4 Rows.demesneGivenRow.domain false) (Rows.demesneGivenSpec.post enc Try.prog Try.f4 false true false false) := by
  refine returnsInHanded_of_change (C := Try.checked) own started (by kernel_rfl) Try.func4
    (ChangeSpec.witness6 (enc := enc) (C := Try.checked) false ⟨#[], #[.slice none 0 0, .int .i64 0, .agg #[.int .i64 0, .int .i64 0], .int .i64 0], []⟩ 8 (by kernel_rfl) (by kernel_rfl) (by kernel_rfl) (by kernel_rfl)) ?_
  intro W base args ds gs before hval0 hW hcnd _
  have hval : ∀ (j : Nat) t v, Try.f4.params[j]? = some t → args[j]? = some v → Value.okWide Try.prog W .any base t v := hval0
  have hW' := hW
  obtain ⟨p, q, hA0, hV, hbef, hfz, hnd⟩ := hW
  have hA : DataW.TrodAll enc Try.prog W 0 (fun _ => true) true Try.f4.params.toList args.toList ds p := hA0
  have hAk := hA
  have hlt : ∀ x ∈ p, x.block < W.heap.size := fun x hx => hW'.lt x (by rw [hbef]; exact List.mem_append_left _ hx)
  rw [Try.params4] at hA hval
  obtain ⟨v0, vs0, d0, ds0, p0, q0, hargs, rfl, hp0, h0, r0⟩ := trodAll_cons hA
  obtain ⟨v1, vs1, d1, ds1, p1, q1, rfl, rfl, hp1, h1, r1⟩ := trodAll_cons r0
  obtain ⟨v2, vs2, d2, ds2, p2, q2, rfl, rfl, hp2, h2, r2⟩ := trodAll_cons r1
  obtain ⟨v3, vs3, d3, ds3, p3, q3, rfl, rfl, hp3, h3, r3⟩ := trodAll_cons r2
  obtain ⟨rfl, rfl, hpz⟩ := trodAll_nil r3
  obtain rfl : args = #[v0, v1, v2, v3] := by cases args; simp_all
  obtain ⟨rfl, rfl⟩ := trodVars_none hV
  obtain ⟨p0, n0, c0, B0, rfl, m0, l0, H0⟩ := open_byts (hval 0 22 v0 rfl rfl) h0
  obtain ⟨a1, rfl, _, _, w1⟩ := open_int Try.underlying3 (hval 1 3 v1 rfl rfl) h1
  obtain ⟨a2a, a2b, rfl, w2a, w2b⟩ := open_range (hval 2 30 v2 rfl rfl) h2
  obtain ⟨a3, rfl, _, _, w3⟩ := open_int Try.underlying3 (hval 3 3 v3 rfl rfl) h3
  clear hA0 hval0
  refine (walk p0 n0 c0 B0 m0 l0 a1 w1 a2a a2b w2a w2b a3 w3 W H0).mono fun e W' ⟨he, hg⟩ => ?_
  subst he
  exact ⟨_, rfl, ⟨_, _, _, [], p, [], hW', (trodAll_cons_mk (shut_bool Try.underlying4 _) trodAll_mk0), args_stay laidOut hg (by kernel_rfl) hAk hlt, rfl, hg.frame _, fun h => by cases h⟩⟩

theorem over : Rows.demesneGivenRow.holds Try.pinned (OpenSpec.ofChange Rows.demesneGivenSpec) :=
  OpenClaim.holds_of_wide 4 Try.f4 rfl rfl rfl rfl rfl rfl rfl ⟨rfl, rfl, rfl, rfl, rfl⟩ rfl rfl rfl rfl rfl (by kernel_rfl) Try.func4 (by kernel_rfl)
    (of_decide_eq_true (by kernel_rfl)) (by unfold Func.isWrapper; first | (rw [if_pos (by decide +kernel)]; kernel_rfl) | (rw [if_neg (by decide +kernel)]; exact ⟨rfl, rfl⟩))
    (fun os started H enc _ => lifted os started H enc)

theorem proved : Rows.DemesneGivenSaid :=
  over
#print axioms proved
end Go.Proofs.Ytpfcpmhpekidkaa.demesneGiven
