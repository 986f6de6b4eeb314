/- For any ranges and any calls: when all is given back, in whatever order, the free blocks are as at the beginning; of at most 70 ranges below frame 6000, any 40 calls; no condition. -/
import Derived.Test.YtpjejjonkdhelaaRows
import Derived.ProofKit
import Derived.OpenShut
import Derived.Carry
import Derived.Test.YtpjejjonkdhelaaBDR
import Derived.Laws.ShiftsVar
namespace Go.Proofs.Ytpjejjonkdhelaa.buddyBack
open Go.ChangeShapes Go.WideShapes Go.ChangeAt Go.RowKit Go.Maps
set_option linter.unusedSimpArgs false
set_option linter.unusedVariables false

set_option maxRecDepth 8000 in
set_option maxHeartbeats 16000000 in
theorem walk (p0 : Option Addr) (n0 c0 : Nat) (F0 : Nat → Int × Int) (m0 : n0 ≤ maxLen) (l0 : n0 ≤ c0) (p1 : Option Addr) (n1 c1 : Nat) (A1 : Nat → Int × Int) (m1 : n1 ≤ maxLen) (l1 : n1 ≤ c1) (w : World) (H0 : IsRgs w p0 n0 F0) (H1 : IsActs w p1 n1 A1) :
    Calls Try.prog 4 #[.slice p0 n0 c0, .slice p1 n1 c1] w fun e w' => e = .returned (.bool true) ∧ Below w.heap.size w w' := by
  have AWH : Hid (∀ W : World, Calls Try.prog 12 #[] W fun e w' => e = .returned (.bool true) ∧ Below W.heap.size W w') := fun W => awake_any W
  obtain ⟨m, hm⟩ : ∃ m, m = min n0 70 := ⟨_, rfl⟩
  have FW : Hid (Calls Try.prog 9 #[.slice p0 n0 c0, .int .i64 70] w fun e w' => ∃ g cap, e = .returned (.slice (some ⟨g, 0, none⟩) m cap) ∧ w.heap.size ≤ g ∧ Rgs w' g m F0 ∧ Below w.heap.size w w') := few_any p0 n0 c0 F0 m hm w H0 l0 m0
  have m70 : m ≤ 70 := by omega
  have WF : Hid (∀ i, i < m → (Lit.int .i64 (F0 i).1).wf = true ∧ (Lit.int .i64 (F0 i).2).wf = true) := fun i hi => by
    obtain ⟨_, _, _, _, _, _, u0, u1⟩ := H0 i (by omega)
    exact ⟨u0, u1⟩
  have HA : Hid (IsActs w p1 n1 A1) := H1
  have mm : (n1 : Int) ≤ 9223372036854775807 := by have : maxLen ≤ 9223372036854775807 := by decide +kernel
                                                   omega
  clear H0 l0 m0 hm H1 m1 l1
  go_enter Try.func4, Try.ntmps4
  go_wp2_with fail
  refine Calls.mono FW.out ?_
  rintro e w1 ⟨g, cap, rfl, hg, hR, hb⟩
  have HR : Hid (Rgs w1 g m F0) := hR
  have B1 : Hid (Below w.heap.size w w1) := hb
  have F2C : Hid (∀ W : World, Rgs W g m F0 → Calls Try.prog 9 #[.slice (some ⟨g, 0, none⟩) m cap, .int .i64 70] W fun e w' => ∃ g cap, e = .returned (.slice (some ⟨g, 0, none⟩) m cap) ∧ W.heap.size ≤ g ∧ Rgs w' g m F0 ∧ Below W.heap.size W w') := fun W h => few_again g m cap F0 W h WF.out m70
  clear hg hR hb FW
  by_cases c64 : 64 < m
  · -- too many
    have NC : Hid (∀ (W : World) (g2 cap2 : Nat), Rgs W g2 m F0 → Calls Try.prog 10 #[.slice (some ⟨g2, 0, none⟩) m cap2] W fun e w' => e = .returned (.tuple #[.pointer none, .int .i64 4]) ∧ Below W.heap.size W w') := fun W g2 cap2 hR => by
      refine (new_big g2 m cap2 c64 W).mono ?_
      rintro e w' ⟨he, rfl⟩
      exact ⟨he, Below.refl _ _⟩
    go_wp2_with fail
    refine Calls.mono (NC.out w1 g cap HR.out) ?_
    rintro e w2 ⟨rfl, hb2⟩
    have B2 : Hid (Below w1.heap.size w1 w2) := hb2
    have F2 : Hid _ := F2C.out w2 (HR.out.below hb2)
    clear hb2
    go_wp2_with fail
    refine Calls.mono F2.out ?_
    rintro e w3 ⟨g2, cap2, rfl, _, hR2, hb3⟩
    have B3 : Hid (Below w1.heap.size w1 w3) := B2.out.trans (hb3.mono B2.out.size)
    have N2 : Hid _ := NC.out w3 g2 cap2 hR2
    clear hb3 hR2 F2
    go_wp2_with fail
    refine Calls.mono N2.out ?_
    rintro e w4 ⟨rfl, hb4⟩
    have B4 : Hid (Below w1.heap.size w1 w4) := B3.out.trans (hb4.mono B3.out.size)
    clear hb4 N2 NC
    go_wp2_with fail
    refine Calls.mono (AWH.out _) ?_
    rintro e w5 ⟨rfl, hb5⟩
    have B5 : Hid (Below w.heap.size w w5) := B1.out.trans ((B4.out.trans (hb5.mono B4.out.size)).mono B1.out.size)
    clear hb5
    go_wp2_with fail
    go_ret
    exact ⟨rfl, B5.out⟩

  by_cases fo : Form F0 m
  rotate_left
  · -- not in form
    have NC : Hid (∀ (W : World) (g2 cap2 : Nat), Rgs W g2 m F0 → Calls Try.prog 10 #[.slice (some ⟨g2, 0, none⟩) m cap2] W fun e w' => e = .returned (.tuple #[.pointer none, .int .i64 3]) ∧ Below W.heap.size W w') := fun W g2 cap2 hR => by
      exact new_form g2 m cap2 (by omega) F0 W hR fo
    go_wp2_with fail
    refine Calls.mono (NC.out w1 g cap HR.out) ?_
    rintro e w2 ⟨rfl, hb2⟩
    have B2 : Hid (Below w1.heap.size w1 w2) := hb2
    have F2 : Hid _ := F2C.out w2 (HR.out.below hb2)
    clear hb2
    go_wp2_with fail
    refine Calls.mono F2.out ?_
    rintro e w3 ⟨g2, cap2, rfl, _, hR2, hb3⟩
    have B3 : Hid (Below w1.heap.size w1 w3) := B2.out.trans (hb3.mono B2.out.size)
    have N2 : Hid _ := NC.out w3 g2 cap2 hR2
    clear hb3 hR2 F2
    go_wp2_with fail
    refine Calls.mono N2.out ?_
    rintro e w4 ⟨rfl, hb4⟩
    have B4 : Hid (Below w1.heap.size w1 w4) := B3.out.trans (hb4.mono B3.out.size)
    clear hb4 N2 NC
    go_wp2_with fail
    refine Calls.mono (AWH.out _) ?_
    rintro e w5 ⟨rfl, hb5⟩
    have B5 : Hid (Below w.heap.size w w5) := B1.out.trans ((B4.out.trans (hb5.mono B4.out.size)).mono B1.out.size)
    clear hb5
    go_wp2_with fail
    go_ret
    exact ⟨rfl, B5.out⟩

  have NC : Hid (∀ (W : World) (g2 cap2 : Nat), Rgs W g2 m F0 → Calls Try.prog 10 #[.slice (some ⟨g2, 0, none⟩) m cap2] W fun e w' => ∃ b, e = .returned (.tuple #[.pointer (some ⟨b, 0, none⟩), .int .i64 0]) ∧ Bu (fun j => j < W.heap.size) w' b (endAt F0 m).toNat (RU F0 m) noneF ∧ Below W.heap.size W w') := fun W g2 cap2 hR => new_ok g2 m cap2 (by omega) F0 W hR fo
  have FO : Hid (Form F0 m) := fo
  clear fo
  go_wp2_with fail
  refine Calls.mono (NC.out w1 g cap HR.out) ?_
  rintro e w2 ⟨b, rfl, hB, hb2⟩
  have B2 : Hid (Below w1.heap.size w1 w2) := hb2
  have HB : Hid (Bu (fun j => j < w1.heap.size) w2 b (endAt F0 m).toNat (RU F0 m) noneF) := hB
  have F2 : Hid _ := F2C.out w2 (HR.out.below hb2)
  clear hb2 hB F2C
  go_wp2_with fail
  refine Calls.mono F2.out ?_
  rintro e w3 ⟨g2, cap2, rfl, _, hR2, hb3⟩
  have B3 : Hid (Below w2.heap.size w2 w3) := hb3
  have N2 : Hid _ := NC.out w3 g2 cap2 hR2
  clear hb3 hR2 F2 NC
  go_wp2_with fail
  refine Calls.mono N2.out ?_
  rintro e w3b ⟨c, rfl, hC, hb3b⟩
  have B3b : Hid (Below w2.heap.size w2 w3b) := B3.out.trans (hb3b.mono B3.out.size)
  have HC : Hid (Bu (fun j => j < w2.heap.size) w3b c (endAt F0 m).toNat (RU F0 m) noneF) := hC.less (fun j hj => Nat.lt_of_lt_of_le hj B3.out.size)
  clear hb3b hC N2 B3
  by_cases lo : ∀ i, i < m → (F0 i).2 ≤ 6000
  rotate_left
  · have LC : Hid (Calls Try.prog 13 #[.slice (some ⟨g, 0, none⟩) m cap, .int .i64 6000] w3b fun e w' => e = .returned (.bool false) ∧ Below w3b.heap.size w3b w') := low_any' g m cap F0 6000 false ⟨(fun h => by cases h), fun h => absurd h lo⟩ (by omega) w3b ((HR.out.below B2.out).below B3b.out)
    clear lo
    go_wp2_with fail
    refine Calls.mono LC.out ?_
    rintro e w4 ⟨rfl, hb4⟩
    have B4 : Hid (Below w.heap.size w w4) := B1.out.trans ((B2.out.trans ((B3b.out.trans (hb4.mono B3b.out.size)).mono B2.out.size)).mono B1.out.size)
    clear hb4
    go_wp2_with fail
    refine Calls.mono (AWH.out _) ?_
    rintro e w5 ⟨rfl, hb5⟩
    have B5 : Hid (Below w.heap.size w w5) := B4.out.trans (hb5.mono B4.out.size)
    clear hb5
    go_wp2_with fail
    go_ret
    exact ⟨rfl, B5.out⟩
  have LC : Hid (Calls Try.prog 13 #[.slice (some ⟨g, 0, none⟩) m cap, .int .i64 6000] w3b fun e w' => e = .returned (.bool true) ∧ Below w3b.heap.size w3b w') := low_any' g m cap F0 6000 true ⟨fun _ => lo, fun _ => rfl⟩ (by omega) w3b ((HR.out.below B2.out).below B3b.out)
  have LF : Hid (∀ x, (RU F0 m) x → x < 6000) := fun x hx => by
    obtain ⟨j, h1, h2, h3⟩ := hx
    have := lo j h1
    omega
  have EN : Hid ((endAt F0 m).toNat ≤ 6000) := by
    show _ ≤ _
    cases m with
    | zero => exact Nat.zero_le _
    | succ m => have := lo m (by omega); show (F0 m).2.toNat ≤ 6000; omega
  clear lo
  go_wp2_with fail
  refine Calls.mono LC.out ?_
  rintro e w4 ⟨rfl, hb4⟩
  obtain ⟨s2, hs2⟩ : ∃ s2, s2 = w2.heap.size := ⟨_, rfl⟩
  obtain ⟨s3, hs3⟩ : ∃ s3, s3 = w3b.heap.size := ⟨_, rfl⟩
  have B4 : Hid (Below w.heap.size w w4) := B1.out.trans ((B2.out.trans ((B3b.out.trans (hb4.mono B3b.out.size)).mono B2.out.size)).mono B1.out.size)
  have J0 : Hid (Iv (fun j => j < w1.heap.size ∨ (s2 ≤ j ∧ j < s3)) w4 (RU F0 m) b (6000 + 20 * 0) w4) := by
    refine ⟨(RU F0 m), noneF, ?_, St.start (fun x hx => Nat.lt_trans (LF.out x hx) (by decide)), Kf.refl _ _⟩
    have h1 := (HB.out.next B3b.out.size (fun j hj _ => B3b.out.block j hj)).mono EN.out
    have h2 := (h1.below hb4)
    rw [hs2, hs3]
    exact h2
  have C4 : Hid (Bu (fun j => j < s2) w4 c 6000 (RU F0 m) noneF) := by
    rw [hs2]
    exact (HC.out.below hb4).mono EN.out
  have S4 : Hid (s3 ≤ w4.heap.size) := by show _ ≤ _; rw [hs3]; exact hb4.size
  have S1 : Hid (w1.heap.size ≤ s2) := by show _ ≤ _; rw [hs2]; exact B2.out.size
  have CN : Hid (∀ W, Kf (fun j => ¬ (fun j => j < w1.heap.size ∨ (s2 ≤ j ∧ j < s3)) j) w4 W → Bu (fun j => j < s2) W c 6000 (RU F0 m) noneF) := fun W kf => by
    have h3 := (HC.out.mono EN.out).next (W' := W) (Nat.le_trans (by rw [← hs3]; exact S4.out) kf.size) (fun j hj nz => by
      have h1 := kf.block j (Nat.lt_of_lt_of_le hj (by rw [← hs3]; exact S4.out)) (fun z => z (Or.inr ⟨by omega, by omega⟩))
      exact h1.trans (hb4.block j hj))
    exact h3.less (fun j hj => Or.inl (by omega))
  have WN : Hid (∀ W, Kf (fun j => ¬ (fun j => j < w1.heap.size ∨ (s2 ≤ j ∧ j < s3)) j) w4 W → Below w.heap.size w W) := fun W kf => B4.out.trans ⟨kf.os, kf.tape, kf.output, kf.size, fun j hj => kf.block j (Nat.lt_of_lt_of_le hj B4.out.size) (fun z => z (Or.inl (Nat.lt_of_lt_of_le hj B1.out.size)))⟩
  clear hb4 LC HB HC B3b B2 hs2 hs3
  go_wp2_with fail
  go_loopw [9] (fun vi W => ∃ k : Nat, k ≤ n1 ∧ k ≤ 40 ∧ vi = .int .i64 k ∧ Hid (Iv (fun j => j < w1.heap.size ∨ (s2 ≤ j ∧ j < s3)) w4 (RU F0 m) b (6000 + 20 * k) W)) (fun vi _ => 40 - (Go.RowKit.intOf vi).toNat)
  case atStart => exact ⟨0, by omega, by omega, rfl, J0⟩
  case round =>
    clear J0
    obtain ⟨k, hk, hk6, rfl, hI⟩ := hrel
    by_cases hlt : k < n1 ∧ k < 40
    · have hd : decide ((k : Int) < (n1 : Int)) = true := by simp; omega
      have hd2 : decide ((k : Int) < 40) = true := by simp; omega
      have hd0 : decide ((k : Int) < 0) = false := by simp
      obtain ⟨pb, po, rfl, lpb, ca, cb, wa, wb⟩ := HA.out k hlt.1
      obtain ⟨kd, hkd⟩ : ∃ x, x = (A1 k).1 := ⟨_, rfl⟩
      obtain ⟨ord, hord⟩ : ∃ x, x = (A1 k).2 := ⟨_, rfl⟩
      rw [← hkd] at ca wa
      rw [← hord] at cb wb
      have ACT0 : Hid (∀ W, Below w.heap.size w W → (W.cell? ⟨pb, po + k * 2, none⟩ = some (.int .i64 kd) ∧ W.cell? ⟨pb, po + k * 2 + 1, none⟩ = some (.int .i64 ord)) ∧ pb < W.heap.size) := fun W hb => ⟨⟨by rw [World.cell?_of_block (w := w) (a := ⟨pb, po + k * 2, none⟩) (hb.block pb lpb)]; exact ca, by rw [World.cell?_of_block (w := w) (a := ⟨pb, po + k * 2 + 1, none⟩) (hb.block pb lpb)]; exact cb⟩, Nat.lt_of_lt_of_le lpb hb.size⟩
      have ACT : Hid (∀ W, Iv (fun j => j < w1.heap.size ∨ (s2 ≤ j ∧ j < s3)) w4 (RU F0 m) b (6000 + 20 * k) W → (W.cell? ⟨pb, po + k * 2, none⟩ = some (.int .i64 kd) ∧ W.cell? ⟨pb, po + k * 2 + 1, none⟩ = some (.int .i64 ord))) := fun W ⟨F, G, hB, hS, kf⟩ => (ACT0.out W (WN.out W kf)).1
      have ACT2 : Hid (∀ W, Iv (fun j => j < w1.heap.size ∨ (s2 ≤ j ∧ j < s3)) w4 (RU F0 m) b (6000 + 20 * (k + 1)) W → (W.cell? ⟨pb, po + k * 2, none⟩ = some (.int .i64 kd) ∧ W.cell? ⟨pb, po + k * 2 + 1, none⟩ = some (.int .i64 ord))) := fun W ⟨F, G, hB, hS, kf⟩ => (ACT0.out W (WN.out W kf)).1
      obtain ⟨⟨qa, qb⟩, lpb'⟩ : (wr.cell? ⟨pb, po + k * 2, none⟩ = some (.int .i64 kd) ∧ wr.cell? ⟨pb, po + k * 2 + 1, none⟩ = some (.int .i64 ord)) ∧ pb < wr.heap.size := by
        obtain ⟨F, G, hB, hS, kf⟩ := hI.out
        exact ACT0.out wr (WN.out wr kf)
      have WB : Hid ((Lit.int .i64 ord).wf = true) := wb
      clear ca cb wa wb hkd hord lpb
      by_cases k1 : kd = 1
      · have e1 : (kd == 1) = true := by simp [k1]
        have TC : Hid (Calls Try.prog 15 #[.pointer (some ⟨b, 0, none⟩), .int .i64 ord] wr fun e w' => (∃ a c, e = .returned (.tuple #[.int .i64 a, .int .i64 c])) ∧ Iv (fun j => j < w1.heap.size ∨ (s2 ≤ j ∧ j < s3)) w4 (RU F0 m) b (6000 + 20 * (k + 1)) w') := by
          refine (hI.out.take ord (by omega)).mono ?_
          rintro e w' ⟨he, h⟩
          exact ⟨he, h.mono (by omega)⟩
        clear k1 hI
        go_wp2_with fail
        refine Calls.mono TC.out ?_
        rintro e u ⟨⟨a1, a2, rfl⟩, hI2⟩
        have J2 : Hid (Iv (fun j => j < w1.heap.size ∨ (s2 ≤ j ∧ j < s3)) w4 (RU F0 m) b (6000 + 20 * (k + 1)) u) := hI2
        clear hI2 TC
        go_wp2_with fail
        go_roundw
        case rel => exact ⟨k + 1, by omega, by omega, by go_num, J2⟩
        case measure => simp [Go.RowKit.intOf]; omega
      have e1 : (kd == 1) = false := by simp [k1]
      have GVC : Hid (∀ W, Iv (fun j => j < w1.heap.size ∨ (s2 ≤ j ∧ j < s3)) w4 (RU F0 m) b (6000 + 20 * k) W → Calls Try.prog 18 #[.pointer (some ⟨b, 0, none⟩)] W fun e w' => ∃ (p : Option Addr) (L : List Int) (c : Nat), e = .returned (.slice p L.length c) ∧ Lst w' (.slice p L.length c) L ∧ (∀ x, x ∈ L → (Lit.int .i64 x).wf = true) ∧ L.length ≤ 1048576 ∧ Below W.heap.size W w') := fun W h => h.given (by omega)
      have WHC : Hid (∀ (W : World) (p : Option Addr) (L : List Int) (c : Nat), (Lst W (.slice p L.length c) L ∧ (∀ x, x ∈ L → (Lit.int .i64 x).wf = true) ∧ L.length ≤ 1048576) → Calls Try.prog 17 #[.slice p L.length c, .agg #[.int .i64 kd, .int .i64 ord]] W fun e w' => (∃ x, e = .returned (.int .i64 x) ∧ (Lit.int .i64 x).wf = true) ∧ Below W.heap.size W w') := fun W p L c h => which_any p L c kd ord WB.out W h.1 h.2.1 h.2.2
      have GIC : Hid (∀ (W : World) (x : Int), (Lit.int .i64 x).wf = true → Iv (fun j => j < w1.heap.size ∨ (s2 ≤ j ∧ j < s3)) w4 (RU F0 m) b (6000 + 20 * k) W → Calls Try.prog 19 #[.pointer (some ⟨b, 0, none⟩), .int .i64 x] W fun e w' => (∃ c, e = .returned (.int .i64 c)) ∧ Iv (fun j => j < w1.heap.size ∨ (s2 ≤ j ∧ j < s3)) w4 (RU F0 m) b (6000 + 20 * (k + 1)) w') := fun W x hx h => by
        refine (h.give hx (by omega)).mono ?_
        rintro e w' ⟨he, h⟩
        exact ⟨he, h.mono (by omega)⟩
      clear k1
      go_upto_region 13 with fail
      refine wp_region_noPanic ?_
      refine wp_region_held_drew (S := fun c => c.cell? ⟨pb, po + k * 2, none⟩ = some (.int .i64 kd) ∧ c.cell? ⟨pb, po + k * 2 + 1, none⟩ = some (.int .i64 ord)) (by kernel_rfl) ?_ (fun hHeld => ?_)
      · exact ⟨qa, qb⟩
      have IU : Hid (Iv (fun j => j < w1.heap.size ∨ (s2 ≤ j ∧ j < s3)) w4 (RU F0 m) b (6000 + 20 * k) wr.drew) := hI.out.drew
      clear hI
      generalize wr.drew = U at IU hHeld ⊢
      refine wpAnyH_take (i := 0) (oi := ⟨some 71, _, _, _, _, none⟩) (v := ?_) rfl (by kernel_rfl) (by kernel_rfl) (by kernel_rfl) (fun _ _ _ h => h) (Or.inl ⟨by rfl, ?_⟩) (by assumption) ?_
      rotate_left
      · intro w hSw; (try dsimp only at hSw); go_simp; (try with_reducible rfl)
      try simp only [Act.put, List.setIfInBounds_toArray, List.set_cons_zero, List.set_cons_succ]
      refine wpAnyH_take (i := 1) (oi := ⟨some 72, _, _, _, _, none⟩) (v := ?_) rfl (by kernel_rfl) (by kernel_rfl) (by kernel_rfl) (fun _ _ _ h => h) (Or.inl ⟨by rfl, ?_⟩) (by assumption) ?_
      rotate_left
      · intro w hSw; (try dsimp only at hSw); go_simp; (try with_reducible rfl)
      try simp only [Act.put, List.setIfInBounds_toArray, List.set_cons_zero, List.set_cons_succ]
      refine wpAnyH_take (i := 3) (oi := ⟨some 74, _, _, _, _, none⟩) (v := ?_) rfl (by kernel_rfl) (by kernel_rfl) (by kernel_rfl) (fun _ _ _ h => h) (Or.inl ⟨by rfl, ?_⟩) (by assumption) ?_
      rotate_left
      · intro w hSw; (try dsimp only at hSw); go_simp; (try with_reducible rfl)
      try simp only [Act.put, List.setIfInBounds_toArray, List.set_cons_zero, List.set_cons_succ]
      refine wpAnyH_take (i := 4) (oi := ⟨some 75, _, _, _, _, none⟩) (v := ?_) rfl (by kernel_rfl) (by kernel_rfl) (by kernel_rfl) (fun _ _ _ h => h) (Or.inl ⟨by rfl, ?_⟩) (by assumption) ?_
      rotate_left
      · intro w hSw; (try dsimp only at hSw); go_simp; (try with_reducible rfl)
      try simp only [Act.put, List.setIfInBounds_toArray, List.set_cons_zero, List.set_cons_succ]
      refine wpAnyH_take (i := 5) (oi := ⟨some 76, _, _, _, _, none⟩) (v := (.pointer (some ⟨pb, po + k * 2, none⟩))) rfl (by kernel_rfl) (by kernel_rfl) (by kernel_rfl) (fun _ _ _ h => h) (Or.inl ⟨by rfl, ?_⟩) (by assumption) ?_
      · intro w hSw; (try dsimp only at hSw); go_simp; (try simp); (try (simp only [IntKind.wrap_i64]; omega))
      try simp only [Act.put, List.setIfInBounds_toArray, List.set_cons_zero, List.set_cons_succ]
      refine wpAnyH_take (i := 6) (oi := ⟨some 77, _, _, _, _, none⟩) (v := (.agg #[.int .i64 kd, .int .i64 ord])) rfl (by kernel_rfl) (by kernel_rfl) (by kernel_rfl) (fun _ _ _ h => h) (Or.inl ⟨by rfl, ?_⟩) (by assumption) ?_
      · intro w hSw; (try dsimp only at hSw); have q0 : w.cell? ⟨pb, po + k * 2, none⟩ = some (.int .i64 kd) := hSw.1; have q1 : w.cell? ⟨pb, po + k * 2 + 1, none⟩ = some (.int .i64 ord) := hSw.2; go_simp; (try simp)
      try simp only [Act.put, List.setIfInBounds_toArray, List.set_cons_zero, List.set_cons_succ]
      refine wpAnyH_ready (rs := [2]) (by kernel_rfl) (by simp) ?_
      refine AllReadyH.cons (o := ⟨some 73, _, _, _, _, none⟩) rfl (fun K hK => ?_) AllReadyH.nil
      go_simp
      go_wp2_with (go_at_call 18; refine Calls.mono (GVC.out U IU.out) ?_; rintro e v1 ⟨pq, L, cq, rfl, hL, hW, hl, hb⟩)
      have IV1 : Hid (Iv (fun j => j < w1.heap.size ∨ (s2 ≤ j ∧ j < s3)) w4 (RU F0 m) b (6000 + 20 * k) v1) := IU.out.below hb
      have HL : Hid (Lst v1 (.slice pq L.length cq) L ∧ (∀ x, x ∈ L → (Lit.int .i64 x).wf = true) ∧ L.length ≤ 1048576) := ⟨hL, hW, hl⟩
      clear hb hHeld IU hL hW hl
      refine hK.out _ _ (ACT.out _ IV1.out) (fun hHeld => ?_)
      clear hK K
      try simp only [Act.put, List.setIfInBounds_toArray, List.set_cons_zero, List.set_cons_succ]
      refine wpAnyH_ready (rs := [7]) (by kernel_rfl) (by simp) ?_
      refine AllReadyH.cons (o := ⟨some 78, _, _, _, _, none⟩) rfl (fun K hK => ?_) AllReadyH.nil
      go_simp
      go_wp2_with (go_at_call 17; refine Calls.mono (WHC.out v1 pq L cq HL.out) ?_; rintro e v2 ⟨⟨x, rfl, hx⟩, hb⟩)
      have IV2 : Hid (Iv (fun j => j < w1.heap.size ∨ (s2 ≤ j ∧ j < s3)) w4 (RU F0 m) b (6000 + 20 * k) v2) := IV1.out.below hb
      have HX : Hid ((Lit.int .i64 x).wf = true) := hx
      clear hb hHeld IV1 HL hx
      refine hK.out _ _ (ACT.out _ IV2.out) (fun hHeld => ?_)
      clear hK K
      try simp only [Act.put, List.setIfInBounds_toArray, List.set_cons_zero, List.set_cons_succ]
      refine wpAnyH_ready (rs := [8]) (by kernel_rfl) (by simp) ?_
      refine AllReadyH.cons (o := ⟨some 79, _, _, _, _, none⟩) rfl (fun K hK => ?_) AllReadyH.nil
      go_simp
      go_wp2_with (go_at_call 19; refine Calls.mono (GIC.out v2 x HX.out IV2.out) ?_; rintro e v3 ⟨⟨cc, rfl⟩, hI3⟩)
      have IV3 : Hid (Iv (fun j => j < w1.heap.size ∨ (s2 ≤ j ∧ j < s3)) w4 (RU F0 m) b (6000 + 20 * (k + 1)) v3) := hI3
      clear hHeld IV2 HX hI3
      refine hK.out _ _ (ACT2.out _ IV3.out) (fun hHeld => ?_)
      clear hK K hHeld
      try simp only [Act.put, List.setIfInBounds_toArray, List.set_cons_zero, List.set_cons_succ]
      refine wpAnyH_done (by kernel_rfl) ?_ _
      refine NoPanic.normal ?_
      go_wp2_with fail
      go_roundw
      case rel => exact ⟨k + 1, by omega, by omega, by go_num, IV3⟩
      case measure => simp [Go.RowKit.intOf]; omega
    have J2 : Hid (∃ (N : Nat) (F : Nat → Prop) (G : Int → Option Int), Bu (fun j => j < w1.heap.size ∨ (s2 ≤ j ∧ j < s3)) wr b N F G ∧ St (RU F0 m) F G ∧ Kf (fun j => ¬ (fun j => j < w1.heap.size ∨ (s2 ≤ j ∧ j < s3)) j) w4 wr ∧ N + gcnt G ≤ 20000) := by
      obtain ⟨F, G, hB, hS, kf⟩ := hI.out
      have := gcnt_bound hS LF.out
      exact ⟨_, F, G, hB, hS, kf, by omega⟩
    clear hI
    by_cases cn : k < n1
    · obtain rfl : k = 40 := by omega
      have hd : decide ((40 : Int) < (n1 : Int)) = true := by simp; omega
      have hd2 : decide (((40 : Nat) : Int) < (n1 : Int)) = true := by simp; omega
      clear hlt
      go_wp2_with fail
      as_aux_lemma =>
        go_loopw [10] (fun _ W => Hid (∃ (N : Nat) (F : Nat → Prop) (G : Int → Option Int), Bu (fun j => j < w1.heap.size ∨ (s2 ≤ j ∧ j < s3)) W b N F G ∧ St (RU F0 m) F G ∧ Kf (fun j => ¬ (fun j => j < w1.heap.size ∨ (s2 ≤ j ∧ j < s3)) j) w4 W ∧ N + gcnt G ≤ 20000)) (fun _ W => gcount b W)
        case atStart => exact J2
        case round =>
          clear J2
          have hI := hrel
          clear hrel
          obtain ⟨N, F, G, hB, hS, kf, hN⟩ := hI.out
          have GC : Hid (∀ W, Below wr.heap.size wr W → Calls Try.prog 18 #[.pointer (some ⟨b, 0, none⟩)] W fun e w' => ∃ (p : Option Addr) (L : List Int) (cc : Nat), e = .returned (.slice p (gcnt G) cc) ∧ L.length = gcnt G ∧ Lst w' (.slice p L.length cc) L ∧ (∀ x, x ∈ L ↔ (G x).isSome = true) ∧ Below W.heap.size W w') := fun W hb => by
            refine ((hB.below hb).given (by omega)).mono ?_
            rintro e w' ⟨v, L, he, hA, hM, hO, hb2⟩
            obtain ⟨p, cc, hv, r⟩ := lst_row hO
            have ll := gcnt_len hS hA hM
            exact ⟨p, L, cc, by rw [he, hv, ll], ll, ⟨p, cc, rfl, r⟩, hM, hb2⟩
          have GI : Hid (∀ (W : World) (x : Int), Below wr.heap.size wr W → (G x).isSome = true → Calls Try.prog 19 #[.pointer (some ⟨b, 0, none⟩), .int .i64 x] W fun e w' => e = .returned (.int .i64 0) ∧ (∃ (N : Nat) (F : Nat → Prop) (G : Int → Option Int), Bu (fun j => j < w1.heap.size ∨ (s2 ≤ j ∧ j < s3)) w' b N F G ∧ St (RU F0 m) F G ∧ Kf (fun j => ¬ (fun j => j < w1.heap.size ∨ (s2 ≤ j ∧ j < s3)) j) w4 w' ∧ N + gcnt G ≤ 20000) ∧ gcount b w' < gcount b wr) := fun W x hb hx => by
            have B2 := hB.below hb
            obtain ⟨v, hv⟩ := Option.isSome_iff_exists.1 hx
            obtain ⟨kk, pp, h1, h2, h3, h4⟩ := hS.giv x v hv
            subst h2
            have hg' : G ((pp * 2 ^ kk : Nat) : Int) = some (kk : Int) := by rw [← h3]; exact hv
            obtain ⟨_, top, hblk⟩ := hS.blk hg'
            refine (B2.give kk pp h1 top (fun i hi => (hblk i hi).2) (by omega) h3 hv).mono ?_
            rintro e w' ⟨he, hB3, k2⟩
            rw [h3] at hB3
            have xb := hS.wf hx
            have dr := gcnt_drop (G := G) (x := pp * 2 ^ kk) (by omega) (by rw [hg']; rfl)
            refine ⟨he, ⟨_, _, _, hB3, hS.give hg', (kf.trans (Kf.below hb)).trans k2, by omega⟩, ?_⟩
            rw [gcount_is hB3, gcount_is hB]
            omega
          have J3 : Hid (gcnt G = 0 → ∀ W, Below wr.heap.size wr W → (∃ (N : Nat) (G : Int → Option Int), N ≤ 20000 ∧ Bu (fun j => j < w1.heap.size ∨ (s2 ≤ j ∧ j < s3)) W b N (RU F0 m) G) ∧ Bu (fun j => j < s2) W c 6000 (RU F0 m) noneF ∧ Below w.heap.size w W) := fun h W hb => by
            have e := gcnt_none hS h
            subst e
            exact ⟨⟨N, G, by omega, hB.below hb⟩, (CN.out wr kf).below hb, (WN.out wr kf).trans (hb.mono (WN.out wr kf).size)⟩
          have tb : gcnt G ≤ 20000 := by omega
          generalize ht : gcnt G = t at *
          have HT : Hid (gcnt G = t) := ht
          clear hB hS kf hN hI ht
          by_cases t0 : 0 < t
          rotate_left
          · obtain rfl : t = 0 := by omega
            clear t0
            go_wp2_with fail
            refine Calls.mono (GC.out wr (Below.refl _ _)) ?_
            rintro e u ⟨p, L, cc, rfl, _, _, _, hb⟩
            have K0 : Hid ((∃ (N : Nat) (G : Int → Option Int), N ≤ 20000 ∧ Bu (fun j => j < w1.heap.size ∨ (s2 ≤ j ∧ j < s3)) u b N (RU F0 m) G) ∧ Bu (fun j => j < s2) u c 6000 (RU F0 m) noneF ∧ Below w.heap.size w u) := J3.out (by trivial) u hb
            clear hb GC GI J3
            go_wp2_with fail
            go_loopw [11] (fun v W => ∃ kk : Nat, kk ≤ 11 ∧ v = .int .i64 kk ∧ Hid ((∃ (N : Nat) (G : Int → Option Int), N ≤ 20000 ∧ Bu (fun j => j < w1.heap.size ∨ (s2 ≤ j ∧ j < s3)) W b N (RU F0 m) G) ∧ Bu (fun j => j < s2) W c 6000 (RU F0 m) noneF ∧ Below w.heap.size w W)) (fun v _ => 11 - (Go.RowKit.intOf v).toNat)
            case atStart => exact ⟨0, by omega, rfl, K0⟩
            case round =>
              clear K0
              obtain ⟨kk, hkk, rfl, hJ⟩ := hrel
              obtain ⟨⟨N, G', hN, hB⟩, hC, hW⟩ := hJ.out
              by_cases ck : kk ≤ 10
              · have d1 : decide ((kk : Int) ≤ 10) = true := by simp; omega
                have BC : Hid (Calls Try.prog 27 #[.pointer (some ⟨b, 0, none⟩), .int .i64 kk] wr fun e w' => ∃ (v : Value) (L : List Int), e = .returned v ∧ Lst w' v L ∧ L.length ≤ 1048576 ∧ Asc L ∧ (∀ x, x ∈ L ↔ can (RU F0 m) kk x) ∧ Below wr.heap.size wr w') := by
                  refine (hB.blocks (by omega) kk (by omega)).mono ?_
                  rintro e w' ⟨v, L, he, hA, hM, hO, hb⟩
                  refine ⟨v, L, he, lst_row hO, ?_, hA, hM, hb⟩
                  have top : ∀ x, x ∈ L → ∃ q : Nat, x = ((q * 2 ^ kk : Nat) : Int) ∧ q * 2 ^ kk + 2 ^ kk ≤ 1048576 := fun x hx => by
                    obtain ⟨_, q, e, cq⟩ := (hM x).1 hx
                    have p := p2pos kk
                    have := hB.1 _ (can_last cq)
                    refine ⟨q, e, ?_⟩
                    generalize 2 ^ kk = Q at *
                    generalize q * Q = X at *
                    omega
                  have e1 := cnt_list kk 1048576 L (asc_nd hA) top
                  have e2 := cnt_le (inL kk L) 1048576
                  have p := p2pos kk
                  exact Nat.le_trans (Nat.le_mul_of_pos_right _ p) (by rw [← e1]; exact e2)
                have CC : Hid (∀ (W : World) (L : List Int), Below wr.heap.size wr W → Asc L → (∀ x, x ∈ L ↔ can (RU F0 m) kk x) → Calls Try.prog 27 #[.pointer (some ⟨c, 0, none⟩), .int .i64 kk] W fun e w' => ∃ (v : Value), e = .returned v ∧ Lst w' v L ∧ Below W.heap.size W w') := fun W L hb aL mL => by
                  refine ((hC.below hb).blocks (by omega) kk (by omega)).mono ?_
                  rintro e w' ⟨v, L', he, hA, hM, hO, hb2⟩
                  have e1 : L' = L := asc_eq hA aL (fun x => (hM x).trans (mL x).symm)
                  subst e1
                  exact ⟨v, he, lst_row hO, hb2⟩
                have SC : Hid (∀ (W : World) (v1 v2 : Value) (L : List Int), L.length ≤ 1048576 → Lst W v1 L → Lst W v2 L → Calls Try.prog 26 #[v1, v2] W fun e w' => e = .returned (.bool true) ∧ Below W.heap.size W w') := fun W v1 v2 L l9 h1 h2 => same_yes v1 v2 L l9 W h1 h2
                have JB : Hid (∀ W, Below wr.heap.size wr W → (∃ (N : Nat) (G : Int → Option Int), N ≤ 20000 ∧ Bu (fun j => j < w1.heap.size ∨ (s2 ≤ j ∧ j < s3)) W b N (RU F0 m) G) ∧ Bu (fun j => j < s2) W c 6000 (RU F0 m) noneF ∧ Below w.heap.size w W) := fun W hb => ⟨⟨N, G', hN, hB.below hb⟩, hC.below hb, hW.trans (hb.mono hW.size)⟩
                clear hB hC hW hJ
                go_wp2_with fail
                refine Calls.mono BC.out ?_
                rintro e u1 ⟨v1, L, rfl, hL, l9, aL, mL, hb⟩
                have B1' : Hid (Below wr.heap.size wr u1) := hb
                have HL : Hid (Lst u1 v1 L ∧ L.length ≤ 1048576) := ⟨hL, l9⟩
                have C1 : Hid _ := CC.out u1 L hb aL mL
                clear hb hL l9 aL mL BC CC
                go_wp2_with fail
                refine Calls.mono C1.out ?_
                rintro e u2 ⟨v2, rfl, hL2, hb⟩
                have B2' : Hid (Below wr.heap.size wr u2) := B1'.out.trans (hb.mono B1'.out.size)
                have S1' : Hid _ := SC.out u2 v1 v2 L HL.out.2 (HL.out.1.below hb) hL2
                clear hb hL2 C1 SC HL B1'
                go_wp2_with fail
                refine Calls.mono S1'.out ?_
                rintro e u3 ⟨rfl, hb⟩
                have J4 : Hid ((∃ (N : Nat) (G : Int → Option Int), N ≤ 20000 ∧ Bu (fun j => j < w1.heap.size ∨ (s2 ≤ j ∧ j < s3)) u3 b N (RU F0 m) G) ∧ Bu (fun j => j < s2) u3 c 6000 (RU F0 m) noneF ∧ Below w.heap.size w u3) := JB.out u3 (B2'.out.trans (hb.mono B2'.out.size))
                clear hb S1' B2' JB
                go_wp2_with fail
                go_roundw
                case rel => exact ⟨kk + 1, by omega, by go_num, J4⟩
                case measure => simp [Go.RowKit.intOf]; omega
              · obtain rfl : kk = 11 := by omega
                have FB : Hid (∀ W, Below wr.heap.size wr W → Calls Try.prog 21 #[.pointer (some ⟨b, 0, none⟩)] W fun e w' => e = .returned (.int .i64 (cnt (RU F0 m) 1048576 : Nat)) ∧ w' = W) := fun W hb => (hB.below hb).free
                have FC : Hid (∀ W, Below wr.heap.size wr W → Calls Try.prog 21 #[.pointer (some ⟨c, 0, none⟩)] W fun e w' => e = .returned (.int .i64 (cnt (RU F0 m) 1048576 : Nat)) ∧ w' = W) := fun W hb => (hC.below hb).free
                have HW : Hid (Below w.heap.size w wr) := hW
                generalize cnt (RU F0 m) 1048576 = al at *
                clear hB hC hW hJ ck
                go_wp2_with fail
                refine Calls.mono (AWH.out _) ?_
                rintro e u1 ⟨rfl, hb⟩
                have F1 : Hid _ := FB.out u1 hb
                have F2 : Hid _ := FC.out u1 hb
                have HU : Hid (Below w.heap.size w u1) := HW.out.trans (hb.mono HW.out.size)
                clear hb FB FC
                go_wp2_with fail
                refine Calls.mono F1.out ?_
                rintro e u2 ⟨rfl, rfl⟩
                clear F1
                go_wp2_with fail
                refine Calls.mono F2.out ?_
                rintro e u3 ⟨rfl, rfl⟩
                clear F2
                go_wp2_with fail
                go_ret
                exact ⟨rfl, HU.out⟩
          have d0 : decide ((0 : Int) < (t : Int)) = true := by simp; omega
          obtain ⟨h, hh⟩ : ∃ h : Nat, h = t / 2 := ⟨_, rfl⟩
          have td : (t : Int).tdiv 2 = (h : Int) := by rw [Int.tdiv_eq_ediv_of_nonneg (by omega)]; omega
          have h1 : decide ((h : Int) < (t : Int)) = true := by simp; omega
          have h0 : decide ((h : Int) < 0) = false := by simp
          have ht : h < t := by omega
          clear hh
          go_wp2_with fail
          refine Calls.mono (GC.out wr (Below.refl _ _)) ?_
          rintro e u ⟨p, L, cc, rfl, _, _, _, hb⟩
          have B1' : Hid (Below wr.heap.size wr u) := hb
          have G2 : Hid _ := GC.out u hb
          clear hb GC
          go_wp2_with fail
          refine Calls.mono G2.out ?_
          rintro e u2 ⟨pq, Lq, cq, rfl, lq, hL, hM, hb⟩
          have B2' : Hid (Below wr.heap.size wr u2) := B1'.out.trans (hb.mono B1'.out.size)
          obtain ⟨pq', cq', eq, rd⟩ := hL
          have hLq : h < Lq.length := by rw [lq]; exact ht
          obtain ⟨gq, e1, lgq, cx⟩ := rd h hLq
          cases eq
          subst e1
          have GI2 : Hid _ := GI.out u2 Lq[h] B2'.out ((hM _).1 (List.getElem_mem hLq))
          generalize Lq[h] = x at *
          clear hb rd hM hLq lq G2 GI J3
          go_wp2_with fail
          refine Calls.mono GI2.out ?_
          rintro e u3 ⟨rfl, hJ, hlt2⟩
          have J5 : Hid (∃ (N : Nat) (F : Nat → Prop) (G : Int → Option Int), Bu (fun j => j < w1.heap.size ∨ (s2 ≤ j ∧ j < s3)) u3 b N F G ∧ St (RU F0 m) F G ∧ Kf (fun j => ¬ (fun j => j < w1.heap.size ∨ (s2 ≤ j ∧ j < s3)) j) w4 u3 ∧ N + gcnt G ≤ 20000) := hJ
          have LT : Hid (gcount b u3 < gcount b wr) := hlt2
          clear hJ hlt2 GI2
          go_wp2_with fail
          go_roundw
          case rel => exact J5
          case measure => exact LT.out

    · obtain rfl : k = n1 := by omega
      have hd : decide ((k : Int) < (k : Int)) = false := by simp
      clear hlt
      go_wp2_with fail
      as_aux_lemma =>
        go_loopw [10] (fun _ W => Hid (∃ (N : Nat) (F : Nat → Prop) (G : Int → Option Int), Bu (fun j => j < w1.heap.size ∨ (s2 ≤ j ∧ j < s3)) W b N F G ∧ St (RU F0 m) F G ∧ Kf (fun j => ¬ (fun j => j < w1.heap.size ∨ (s2 ≤ j ∧ j < s3)) j) w4 W ∧ N + gcnt G ≤ 20000)) (fun _ W => gcount b W)
        case atStart => exact J2
        case round =>
          clear J2
          have hI := hrel
          clear hrel
          obtain ⟨N, F, G, hB, hS, kf, hN⟩ := hI.out
          have GC : Hid (∀ W, Below wr.heap.size wr W → Calls Try.prog 18 #[.pointer (some ⟨b, 0, none⟩)] W fun e w' => ∃ (p : Option Addr) (L : List Int) (cc : Nat), e = .returned (.slice p (gcnt G) cc) ∧ L.length = gcnt G ∧ Lst w' (.slice p L.length cc) L ∧ (∀ x, x ∈ L ↔ (G x).isSome = true) ∧ Below W.heap.size W w') := fun W hb => by
            refine ((hB.below hb).given (by omega)).mono ?_
            rintro e w' ⟨v, L, he, hA, hM, hO, hb2⟩
            obtain ⟨p, cc, hv, r⟩ := lst_row hO
            have ll := gcnt_len hS hA hM
            exact ⟨p, L, cc, by rw [he, hv, ll], ll, ⟨p, cc, rfl, r⟩, hM, hb2⟩
          have GI : Hid (∀ (W : World) (x : Int), Below wr.heap.size wr W → (G x).isSome = true → Calls Try.prog 19 #[.pointer (some ⟨b, 0, none⟩), .int .i64 x] W fun e w' => e = .returned (.int .i64 0) ∧ (∃ (N : Nat) (F : Nat → Prop) (G : Int → Option Int), Bu (fun j => j < w1.heap.size ∨ (s2 ≤ j ∧ j < s3)) w' b N F G ∧ St (RU F0 m) F G ∧ Kf (fun j => ¬ (fun j => j < w1.heap.size ∨ (s2 ≤ j ∧ j < s3)) j) w4 w' ∧ N + gcnt G ≤ 20000) ∧ gcount b w' < gcount b wr) := fun W x hb hx => by
            have B2 := hB.below hb
            obtain ⟨v, hv⟩ := Option.isSome_iff_exists.1 hx
            obtain ⟨kk, pp, h1, h2, h3, h4⟩ := hS.giv x v hv
            subst h2
            have hg' : G ((pp * 2 ^ kk : Nat) : Int) = some (kk : Int) := by rw [← h3]; exact hv
            obtain ⟨_, top, hblk⟩ := hS.blk hg'
            refine (B2.give kk pp h1 top (fun i hi => (hblk i hi).2) (by omega) h3 hv).mono ?_
            rintro e w' ⟨he, hB3, k2⟩
            rw [h3] at hB3
            have xb := hS.wf hx
            have dr := gcnt_drop (G := G) (x := pp * 2 ^ kk) (by omega) (by rw [hg']; rfl)
            refine ⟨he, ⟨_, _, _, hB3, hS.give hg', (kf.trans (Kf.below hb)).trans k2, by omega⟩, ?_⟩
            rw [gcount_is hB3, gcount_is hB]
            omega
          have J3 : Hid (gcnt G = 0 → ∀ W, Below wr.heap.size wr W → (∃ (N : Nat) (G : Int → Option Int), N ≤ 20000 ∧ Bu (fun j => j < w1.heap.size ∨ (s2 ≤ j ∧ j < s3)) W b N (RU F0 m) G) ∧ Bu (fun j => j < s2) W c 6000 (RU F0 m) noneF ∧ Below w.heap.size w W) := fun h W hb => by
            have e := gcnt_none hS h
            subst e
            exact ⟨⟨N, G, by omega, hB.below hb⟩, (CN.out wr kf).below hb, (WN.out wr kf).trans (hb.mono (WN.out wr kf).size)⟩
          have tb : gcnt G ≤ 20000 := by omega
          generalize ht : gcnt G = t at *
          have HT : Hid (gcnt G = t) := ht
          clear hB hS kf hN hI ht
          by_cases t0 : 0 < t
          rotate_left
          · obtain rfl : t = 0 := by omega
            clear t0
            go_wp2_with fail
            refine Calls.mono (GC.out wr (Below.refl _ _)) ?_
            rintro e u ⟨p, L, cc, rfl, _, _, _, hb⟩
            have K0 : Hid ((∃ (N : Nat) (G : Int → Option Int), N ≤ 20000 ∧ Bu (fun j => j < w1.heap.size ∨ (s2 ≤ j ∧ j < s3)) u b N (RU F0 m) G) ∧ Bu (fun j => j < s2) u c 6000 (RU F0 m) noneF ∧ Below w.heap.size w u) := J3.out (by trivial) u hb
            clear hb GC GI J3
            go_wp2_with fail
            go_loopw [11] (fun v W => ∃ kk : Nat, kk ≤ 11 ∧ v = .int .i64 kk ∧ Hid ((∃ (N : Nat) (G : Int → Option Int), N ≤ 20000 ∧ Bu (fun j => j < w1.heap.size ∨ (s2 ≤ j ∧ j < s3)) W b N (RU F0 m) G) ∧ Bu (fun j => j < s2) W c 6000 (RU F0 m) noneF ∧ Below w.heap.size w W)) (fun v _ => 11 - (Go.RowKit.intOf v).toNat)
            case atStart => exact ⟨0, by omega, rfl, K0⟩
            case round =>
              clear K0
              obtain ⟨kk, hkk, rfl, hJ⟩ := hrel
              obtain ⟨⟨N, G', hN, hB⟩, hC, hW⟩ := hJ.out
              by_cases ck : kk ≤ 10
              · have d1 : decide ((kk : Int) ≤ 10) = true := by simp; omega
                have BC : Hid (Calls Try.prog 27 #[.pointer (some ⟨b, 0, none⟩), .int .i64 kk] wr fun e w' => ∃ (v : Value) (L : List Int), e = .returned v ∧ Lst w' v L ∧ L.length ≤ 1048576 ∧ Asc L ∧ (∀ x, x ∈ L ↔ can (RU F0 m) kk x) ∧ Below wr.heap.size wr w') := by
                  refine (hB.blocks (by omega) kk (by omega)).mono ?_
                  rintro e w' ⟨v, L, he, hA, hM, hO, hb⟩
                  refine ⟨v, L, he, lst_row hO, ?_, hA, hM, hb⟩
                  have top : ∀ x, x ∈ L → ∃ q : Nat, x = ((q * 2 ^ kk : Nat) : Int) ∧ q * 2 ^ kk + 2 ^ kk ≤ 1048576 := fun x hx => by
                    obtain ⟨_, q, e, cq⟩ := (hM x).1 hx
                    have p := p2pos kk
                    have := hB.1 _ (can_last cq)
                    refine ⟨q, e, ?_⟩
                    generalize 2 ^ kk = Q at *
                    generalize q * Q = X at *
                    omega
                  have e1 := cnt_list kk 1048576 L (asc_nd hA) top
                  have e2 := cnt_le (inL kk L) 1048576
                  have p := p2pos kk
                  exact Nat.le_trans (Nat.le_mul_of_pos_right _ p) (by rw [← e1]; exact e2)
                have CC : Hid (∀ (W : World) (L : List Int), Below wr.heap.size wr W → Asc L → (∀ x, x ∈ L ↔ can (RU F0 m) kk x) → Calls Try.prog 27 #[.pointer (some ⟨c, 0, none⟩), .int .i64 kk] W fun e w' => ∃ (v : Value), e = .returned v ∧ Lst w' v L ∧ Below W.heap.size W w') := fun W L hb aL mL => by
                  refine ((hC.below hb).blocks (by omega) kk (by omega)).mono ?_
                  rintro e w' ⟨v, L', he, hA, hM, hO, hb2⟩
                  have e1 : L' = L := asc_eq hA aL (fun x => (hM x).trans (mL x).symm)
                  subst e1
                  exact ⟨v, he, lst_row hO, hb2⟩
                have SC : Hid (∀ (W : World) (v1 v2 : Value) (L : List Int), L.length ≤ 1048576 → Lst W v1 L → Lst W v2 L → Calls Try.prog 26 #[v1, v2] W fun e w' => e = .returned (.bool true) ∧ Below W.heap.size W w') := fun W v1 v2 L l9 h1 h2 => same_yes v1 v2 L l9 W h1 h2
                have JB : Hid (∀ W, Below wr.heap.size wr W → (∃ (N : Nat) (G : Int → Option Int), N ≤ 20000 ∧ Bu (fun j => j < w1.heap.size ∨ (s2 ≤ j ∧ j < s3)) W b N (RU F0 m) G) ∧ Bu (fun j => j < s2) W c 6000 (RU F0 m) noneF ∧ Below w.heap.size w W) := fun W hb => ⟨⟨N, G', hN, hB.below hb⟩, hC.below hb, hW.trans (hb.mono hW.size)⟩
                clear hB hC hW hJ
                go_wp2_with fail
                refine Calls.mono BC.out ?_
                rintro e u1 ⟨v1, L, rfl, hL, l9, aL, mL, hb⟩
                have B1' : Hid (Below wr.heap.size wr u1) := hb
                have HL : Hid (Lst u1 v1 L ∧ L.length ≤ 1048576) := ⟨hL, l9⟩
                have C1 : Hid _ := CC.out u1 L hb aL mL
                clear hb hL l9 aL mL BC CC
                go_wp2_with fail
                refine Calls.mono C1.out ?_
                rintro e u2 ⟨v2, rfl, hL2, hb⟩
                have B2' : Hid (Below wr.heap.size wr u2) := B1'.out.trans (hb.mono B1'.out.size)
                have S1' : Hid _ := SC.out u2 v1 v2 L HL.out.2 (HL.out.1.below hb) hL2
                clear hb hL2 C1 SC HL B1'
                go_wp2_with fail
                refine Calls.mono S1'.out ?_
                rintro e u3 ⟨rfl, hb⟩
                have J4 : Hid ((∃ (N : Nat) (G : Int → Option Int), N ≤ 20000 ∧ Bu (fun j => j < w1.heap.size ∨ (s2 ≤ j ∧ j < s3)) u3 b N (RU F0 m) G) ∧ Bu (fun j => j < s2) u3 c 6000 (RU F0 m) noneF ∧ Below w.heap.size w u3) := JB.out u3 (B2'.out.trans (hb.mono B2'.out.size))
                clear hb S1' B2' JB
                go_wp2_with fail
                go_roundw
                case rel => exact ⟨kk + 1, by omega, by go_num, J4⟩
                case measure => simp [Go.RowKit.intOf]; omega
              · obtain rfl : kk = 11 := by omega
                have FB : Hid (∀ W, Below wr.heap.size wr W → Calls Try.prog 21 #[.pointer (some ⟨b, 0, none⟩)] W fun e w' => e = .returned (.int .i64 (cnt (RU F0 m) 1048576 : Nat)) ∧ w' = W) := fun W hb => (hB.below hb).free
                have FC : Hid (∀ W, Below wr.heap.size wr W → Calls Try.prog 21 #[.pointer (some ⟨c, 0, none⟩)] W fun e w' => e = .returned (.int .i64 (cnt (RU F0 m) 1048576 : Nat)) ∧ w' = W) := fun W hb => (hC.below hb).free
                have HW : Hid (Below w.heap.size w wr) := hW
                generalize cnt (RU F0 m) 1048576 = al at *
                clear hB hC hW hJ ck
                go_wp2_with fail
                refine Calls.mono (AWH.out _) ?_
                rintro e u1 ⟨rfl, hb⟩
                have F1 : Hid _ := FB.out u1 hb
                have F2 : Hid _ := FC.out u1 hb
                have HU : Hid (Below w.heap.size w u1) := HW.out.trans (hb.mono HW.out.size)
                clear hb FB FC
                go_wp2_with fail
                refine Calls.mono F1.out ?_
                rintro e u2 ⟨rfl, rfl⟩
                clear F1
                go_wp2_with fail
                refine Calls.mono F2.out ?_
                rintro e u3 ⟨rfl, rfl⟩
                clear F2
                go_wp2_with fail
                go_ret
                exact ⟨rfl, HU.out⟩
          have d0 : decide ((0 : Int) < (t : Int)) = true := by simp; omega
          obtain ⟨h, hh⟩ : ∃ h : Nat, h = t / 2 := ⟨_, rfl⟩
          have td : (t : Int).tdiv 2 = (h : Int) := by rw [Int.tdiv_eq_ediv_of_nonneg (by omega)]; omega
          have h1 : decide ((h : Int) < (t : Int)) = true := by simp; omega
          have h0 : decide ((h : Int) < 0) = false := by simp
          have ht : h < t := by omega
          clear hh
          go_wp2_with fail
          refine Calls.mono (GC.out wr (Below.refl _ _)) ?_
          rintro e u ⟨p, L, cc, rfl, _, _, _, hb⟩
          have B1' : Hid (Below wr.heap.size wr u) := hb
          have G2 : Hid _ := GC.out u hb
          clear hb GC
          go_wp2_with fail
          refine Calls.mono G2.out ?_
          rintro e u2 ⟨pq, Lq, cq, rfl, lq, hL, hM, hb⟩
          have B2' : Hid (Below wr.heap.size wr u2) := B1'.out.trans (hb.mono B1'.out.size)
          obtain ⟨pq', cq', eq, rd⟩ := hL
          have hLq : h < Lq.length := by rw [lq]; exact ht
          obtain ⟨gq, e1, lgq, cx⟩ := rd h hLq
          cases eq
          subst e1
          have GI2 : Hid _ := GI.out u2 Lq[h] B2'.out ((hM _).1 (List.getElem_mem hLq))
          generalize Lq[h] = x at *
          clear hb rd hM hLq lq G2 GI J3
          go_wp2_with fail
          refine Calls.mono GI2.out ?_
          rintro e u3 ⟨rfl, hJ, hlt2⟩
          have J5 : Hid (∃ (N : Nat) (F : Nat → Prop) (G : Int → Option Int), Bu (fun j => j < w1.heap.size ∨ (s2 ≤ j ∧ j < s3)) u3 b N F G ∧ St (RU F0 m) F G ∧ Kf (fun j => ¬ (fun j => j < w1.heap.size ∨ (s2 ≤ j ∧ j < s3)) j) w4 u3 ∧ N + gcnt G ≤ 20000) := hJ
          have LT : Hid (gcount b u3 < gcount b wr) := hlt2
          clear hJ hlt2 GI2
          go_wp2_with fail
          go_roundw
          case rel => exact J5
          case measure => exact LT.out

theorem own : ownKnob Try.prog.godebug = none := by kernel_rfl
theorem laidOut : laidOutB Try.prog = true := by kernel_rfl
set_option maxRecDepth 100000 in
theorem lifted (os : Os) (started : os.Started) (H : Type) (enc : TypeId × Value → H) :
    ReturnsInHanded {} Try.checked os 4 .any (Rows.buddyBackSpec.pre6 enc Try.prog Try.f4 Rows.buddyBackRow.domain false) (Rows.buddyBackSpec.post enc Try.prog Try.f4 false true false false) := by
  refine returnsInHanded_of_change (C := Try.checked) own started (by kernel_rfl) Try.func4
    (ChangeSpec.witness6 (enc := enc) (C := Try.checked) false ⟨#[], #[.slice none 0 0, .slice none 0 0], []⟩ 8 (by kernel_rfl) (by kernel_rfl) (by kernel_rfl) (by kernel_rfl)) ?_
  intro W base args ds gs before hval0 hW hcnd _
  have hval : ∀ (j : Nat) t v, Try.f4.params[j]? = some t → args[j]? = some v → Value.okWide Try.prog W .any base t v := hval0
  have hW' := hW
  obtain ⟨p, q, hA0, hV, hbef, hfz, hnd⟩ := hW
  have hA : DataW.TrodAll enc Try.prog W 0 (fun _ => true) true Try.f4.params.toList args.toList ds p := hA0
  have hAk := hA
  have hlt : ∀ x ∈ p, x.block < W.heap.size := fun x hx => hW'.lt x (by rw [hbef]; exact List.mem_append_left _ hx)
  rw [Try.params4] at hA hval
  obtain ⟨v0, vs0, d0, ds0, p0, q0, hargs, rfl, hp0, h0, r0⟩ := trodAll_cons hA
  obtain ⟨v1, vs1, d1, ds1, p1, q1, rfl, rfl, hp1, h1, r1⟩ := trodAll_cons r0
  obtain ⟨rfl, rfl, hpz⟩ := trodAll_nil r1
  obtain rfl : args = #[v0, v1] := by cases args; simp_all
  obtain ⟨rfl, rfl⟩ := trodVars_none hV
  obtain ⟨p0, n0, c0, F0, rfl, m0, l0, H0⟩ := open_rgs (hval 0 22 v0 rfl rfl) h0
  obtain ⟨p1, n1, c1, A1, rfl, m1, l1, H1⟩ := open_acts (hval 1 23 v1 rfl rfl) h1
  clear hA0 hval0
  refine (walk p0 n0 c0 F0 m0 l0 p1 n1 c1 A1 m1 l1 W H0 H1).mono fun e W' ⟨he, hg⟩ => ?_
  subst he
  exact ⟨_, rfl, ⟨_, _, _, [], p, [], hW', (trodAll_cons_mk (shut_bool Try.underlying4 _) trodAll_mk0), args_stay laidOut hg (by kernel_rfl) hAk hlt, rfl, hg.frame _, fun h => by cases h⟩⟩

theorem over : Rows.buddyBackRow.holds Try.pinned (OpenSpec.ofChange Rows.buddyBackSpec) :=
  OpenClaim.holds_of_wide 4 Try.f4 rfl rfl rfl rfl rfl rfl rfl ⟨rfl, rfl, rfl, rfl, rfl⟩ rfl rfl rfl rfl rfl (by kernel_rfl) Try.func4 (by kernel_rfl)
    (of_decide_eq_true (by kernel_rfl)) (by unfold Func.isWrapper; first | (rw [if_pos (by decide +kernel)]; kernel_rfl) | (rw [if_neg (by decide +kernel)]; exact ⟨rfl, rfl⟩))
    (fun os started H enc _ => lifted os started H enc)

theorem proved : Rows.BuddyBackSaid :=
  over
#print axioms proved
end Go.Proofs.Ytpjejjonkdhelaa.buddyBack
