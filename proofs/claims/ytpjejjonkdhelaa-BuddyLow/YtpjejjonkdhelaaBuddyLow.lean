/- For any ranges: frames that are taken one by one come each once, are ones of the ranges, and are as many as are free; of at most 70 ranges below frame 6000; no condition. -/
import Derived.Test.YtpjejjonkdhelaaRows
import Derived.ProofKit
import Derived.OpenShut
import Derived.Carry
import Derived.Test.YtpjejjonkdhelaaBDP
import Derived.Laws.ShiftsVar
namespace Go.Proofs.Ytpjejjonkdhelaa.buddyLow
open Go.ChangeShapes Go.WideShapes Go.ChangeAt Go.RowKit Go.Maps
set_option linter.unusedSimpArgs false
set_option linter.unusedVariables false
theorem cnt_mono {F G : Nat → Prop} (h : ∀ i, F i → G i) (n : Nat) : cnt F n ≤ cnt G n := by
  have := cnt_sub G F h n
  omega
theorem cnt_bound {F : Nat → Prop} {b : Nat} (h : ∀ i, F i → i < b) (n : Nat) : cnt F n ≤ b := by
  have := cnt_mono (G := fun i => 0 ≤ i ∧ i < b) (fun i hi => ⟨Nat.zero_le _, h i hi⟩) n
  rw [cnt_seg 0 b (Nat.zero_le _)] at this
  omega
theorem cnt_empty {F : Nat → Prop} (h : ∀ i, ¬ F i) (n : Nat) : cnt F n = 0 := by
  have := cnt_bound (F := F) (b := 0) (fun i hi => absurd hi (h i)) n
  omega
theorem cn_some {F : Nat → Prop} {i : Nat} (h : F i) : ∃ k q, k ≤ 10 ∧ cnN F k q := by
  obtain ⟨o, q, _, h2, h3, _⟩ := cn_max F 10 0 i rfl (fun j e => by simp at e; rw [e]; exact h)
  exact ⟨o, q, h2, h3⟩
theorem cnt_some {F : Nat → Prop} {n : Nat} (h : cnt F n ≠ 0) : ∃ i, F i := by
  apply Classical.byContradiction
  intro c
  exact h (cnt_empty (fun i hi => c ⟨i, hi⟩) n)
/-- as many keys as frames -/
theorem cnt_keys {F : Nat → Prop} {L : List Int} (hB : Bnd F) (a : Asc L) (h : ∀ x : Int, x ∈ L ↔ ∃ j : Nat, x = (j : Int) ∧ F j) : L.length = cnt F 1048576 := by
  have e := cnt_list 0 1048576 L (asc_nd a) (fun x hx => by
    obtain ⟨j, rfl, hj⟩ := (h x).1 hx
    exact ⟨j, by simp, by have := hB j hj; simp; omega⟩)
  have e2 : inL 0 L = F := by
    funext i; apply propext
    constructor
    · rintro ⟨x, hx, q, hq, hi⟩
      obtain ⟨j, rfl, hj⟩ := (h x).1 hx
      simp at hq hi
      have : j = q := by omega
      rw [hi, ← this]; exact hj
    · intro hi
      exact ⟨i, (h i).2 ⟨i, rfl, hi⟩, i, by simp, by simp⟩
  rw [e2] at e
  simp at e
  exact e.symm

set_option maxRecDepth 8000 in
set_option maxHeartbeats 4000000 in
theorem walk (p0 : Option Addr) (n0 c0 : Nat) (F0 : Nat → Int × Int) (m0 : n0 ≤ maxLen) (l0 : n0 ≤ c0) (w : World) (H0 : IsRgs w p0 n0 F0) :
    Calls Try.prog 6 #[.slice p0 n0 c0] w fun e w' => e = .returned (.bool true) ∧ Below w.heap.size w w' := by
  have AWH : Hid (∀ W : World, Calls Try.prog 12 #[] W fun e w' => e = .returned (.bool true) ∧ Below W.heap.size W w') := fun W => awake_any W
  obtain ⟨m, hm⟩ : ∃ m, m = min n0 70 := ⟨_, rfl⟩
  have FW : Hid (Calls Try.prog 9 #[.slice p0 n0 c0, .int .i64 70] w fun e w' => ∃ g cap, e = .returned (.slice (some ⟨g, 0, none⟩) m cap) ∧ w.heap.size ≤ g ∧ Rgs w' g m F0 ∧ Below w.heap.size w w') := few_any p0 n0 c0 F0 m hm w H0 l0 m0
  have m70 : m ≤ 70 := by omega
  clear H0 l0 m0 hm
  go_enter Try.func6, Try.ntmps6
  go_wp2_with fail
  refine Calls.mono FW.out ?_
  rintro e w1 ⟨g, cap, rfl, hg, hR, hb⟩
  have HR : Hid (Rgs w1 g m F0) := hR
  have B1 : Hid (Below w.heap.size w w1) := hb
  clear hg hR hb FW
  by_cases c64 : 64 < m
  · -- too many
    have NC : Hid (Calls Try.prog 10 #[.slice (some ⟨g, 0, none⟩) m cap] w1 fun e w' => e = .returned (.tuple #[.pointer none, .int .i64 4]) ∧ Below w1.heap.size w1 w') := by
      refine (new_big g m cap c64 w1).mono ?_
      rintro e w' ⟨he, rfl⟩
      exact ⟨he, Below.refl _ _⟩
    go_wp2_with fail
    refine Calls.mono NC.out ?_
    rintro e w2 ⟨rfl, hb2⟩
    have B2 : Hid (Below w.heap.size w w2) := B1.out.trans (hb2.mono B1.out.size)
    clear hb2 NC
    go_wp2_with fail
    refine Calls.mono (AWH.out _) ?_
    rintro e w3 ⟨rfl, hb3⟩
    have B3 : Hid (Below w.heap.size w w3) := B2.out.trans (hb3.mono B2.out.size)
    clear hb3
    go_wp2_with fail
    go_ret
    exact ⟨rfl, B3.out⟩

  by_cases fo : Form F0 m
  rotate_left
  · -- not in form
    have NC : Hid (Calls Try.prog 10 #[.slice (some ⟨g, 0, none⟩) m cap] w1 fun e w' => e = .returned (.tuple #[.pointer none, .int .i64 3]) ∧ Below w1.heap.size w1 w') := by
      exact new_form g m cap (by omega) F0 w1 HR.out fo
    go_wp2_with fail
    refine Calls.mono NC.out ?_
    rintro e w2 ⟨rfl, hb2⟩
    have B2 : Hid (Below w.heap.size w w2) := B1.out.trans (hb2.mono B1.out.size)
    clear hb2 NC
    go_wp2_with fail
    refine Calls.mono (AWH.out _) ?_
    rintro e w3 ⟨rfl, hb3⟩
    have B3 : Hid (Below w.heap.size w w3) := B2.out.trans (hb3.mono B2.out.size)
    clear hb3
    go_wp2_with fail
    go_ret
    exact ⟨rfl, B3.out⟩

  have NC : Hid (Calls Try.prog 10 #[.slice (some ⟨g, 0, none⟩) m cap] w1 fun e w' => ∃ b, e = .returned (.tuple #[.pointer (some ⟨b, 0, none⟩), .int .i64 0]) ∧ Bu (fun j => j < w1.heap.size) w' b (endAt F0 m).toNat (RU F0 m) noneF ∧ Below w1.heap.size w1 w') := new_ok g m cap (by omega) F0 w1 HR.out fo
  have FO : Hid (Form F0 m) := fo
  clear fo
  go_wp2_with fail
  refine Calls.mono NC.out ?_
  rintro e w2 ⟨b, rfl, hB, hb2⟩
  have B2 : Hid (Below w1.heap.size w1 w2) := hb2
  have HB : Hid (Bu (fun j => j < w1.heap.size) w2 b (endAt F0 m).toNat (RU F0 m) noneF) := hB
  clear hB hb2 NC
  by_cases lo : ∀ i, i < m → (F0 i).2 ≤ 6000
  rotate_left
  · have LC : Hid (Calls Try.prog 13 #[.slice (some ⟨g, 0, none⟩) m cap, .int .i64 6000] w2 fun e w' => e = .returned (.bool false) ∧ Below w2.heap.size w2 w') := low_any' g m cap F0 6000 false ⟨(fun h => by cases h), fun h => absurd h lo⟩ (by omega) w2 (HR.out.below B2.out)
    clear lo
    go_wp2_with fail
    refine Calls.mono LC.out ?_
    rintro e w3 ⟨rfl, hb3⟩
    have B3 : Hid (Below w.heap.size w w3) := B1.out.trans ((B2.out.trans (hb3.mono B2.out.size)).mono B1.out.size)
    clear hb3
    go_wp2_with fail
    refine Calls.mono (AWH.out _) ?_
    rintro e w4 ⟨rfl, hb4⟩
    have B4 : Hid (Below w.heap.size w w4) := B3.out.trans (hb4.mono B3.out.size)
    clear hb4
    go_wp2_with fail
    go_ret
    exact ⟨rfl, B4.out⟩
  have LC : Hid (Calls Try.prog 13 #[.slice (some ⟨g, 0, none⟩) m cap, .int .i64 6000] w2 fun e w' => e = .returned (.bool true) ∧ Below w2.heap.size w2 w') := low_any' g m cap F0 6000 true ⟨fun _ => lo, fun _ => rfl⟩ (by omega) w2 (HR.out.below B2.out)
  have LF : Hid (∀ x, RU F0 m x → x < 6000) := fun x hx => by
    obtain ⟨j, h1, h2, h3⟩ := hx
    have := lo j h1
    omega
  have EN : Hid ((endAt F0 m).toNat ≤ 6000) := by
    show _ ≤ _
    cases m with
    | zero => exact Nat.zero_le _
    | succ m => have := lo m (by omega); show (F0 m).2.toNat ≤ 6000; omega
  clear lo
  go_wp2_with fail
  refine Calls.mono LC.out ?_
  rintro e w3 ⟨rfl, hb3⟩
  have B3 : Hid (Below w1.heap.size w1 w3) := B2.out.trans (hb3.mono B2.out.size)
  have HB3 : Hid (Bu (fun j => j < w1.heap.size) w3 b 6000 (RU F0 m) noneF) := (HB.out.below hb3).mono EN.out
  obtain ⟨al, hal⟩ : ∃ al, al = cnt (RU F0 m) 1048576 := ⟨_, rfl⟩
  have al6 : al ≤ 6000 := by rw [hal]; exact cnt_bound LF.out _
  have FC : Hid (Calls Try.prog 21 #[.pointer (some ⟨b, 0, none⟩)] w3 fun e w' => e = .returned (.int .i64 al) ∧ w' = w3) := by
    have r := HB3.out.free
    rw [← hal] at r
    exact r
  obtain ⟨w4, mk, hS, b4, z4⟩ := sn_make 6000 (by omega) w3
  obtain ⟨sb, hsb⟩ : ∃ sb, sb = w3.heap.size := ⟨_, rfl⟩
  rw [← hsb] at mk hS
  have J0 : Hid (∃ (Fc S : Nat → Prop) (G : Int → Option Int), Bu (fun j => j < w1.heap.size ∨ j = sb) w4 b (6000 + 20 * 0) Fc G ∧ Sn w4 sb 6000 S ∧ (∀ x, Fc x → RU F0 m x ∧ ¬ S x) ∧ 0 + cnt Fc 1048576 = al ∧ (∀ x : Int, (G x).isSome = true ↔ ∃ j : Nat, x = (j : Int) ∧ RU F0 m j ∧ ¬ Fc j) ∧ Below w1.heap.size w1 w4) := by
    have hB4 := HB3.out.next b4.size (fun j hj _ => b4.block j hj)
    refine ⟨_, _, noneF, hB4.less (fun j hj => ?_), hS, fun i hi => ⟨hi, fun h => h⟩, by omega, fun x => ⟨(fun h => by cases h), fun ⟨j, _, h1, h2⟩ => absurd h1 h2⟩, B3.out.trans (b4.mono B3.out.size)⟩
    rcases hj with h | h
    · exact Or.inl h
    · right; omega
  have LS : Hid (w1.heap.size ≤ sb) := by show _ ≤ _; rw [hsb]; exact B3.out.size
  have mk' : Sem.run Try.prog (Instr.makeSlice 32 (.int .i64 6000) (.int .i64 6000)) w3 = .ok (.slice (some ⟨sb, 0, none⟩) 6000 6000) w4 := mk
  have AL : Hid (al = cnt (RU F0 m) 1048576) := hal
  clear hb3 hS b4 z4 mk hsb hal LC HB HB3 B2
  go_wp2_with fail
  refine Calls.mono FC.out ?_
  rintro e w3' ⟨rfl, rfl⟩
  clear FC
  go_wp2_with fail
  go_loopw [7, 8, 9] (fun vi _ _ W => ∃ i : Nat, i ≤ al ∧ vi = .int .i64 i ∧ Hid (∃ (Fc S : Nat → Prop) (G : Int → Option Int), Bu (fun j => j < w1.heap.size ∨ j = sb) W b (6000 + 20 * i) Fc G ∧ Sn W sb 6000 S ∧ (∀ x, Fc x → RU F0 m x ∧ ¬ S x) ∧ i + cnt Fc 1048576 = al ∧ (∀ x : Int, (G x).isSome = true ↔ ∃ j : Nat, x = (j : Int) ∧ RU F0 m j ∧ ¬ Fc j) ∧ Below w1.heap.size w1 W)) (fun vi _ _ _ => al - (Go.RowKit.intOf vi).toNat)
  case atStart => exact ⟨0, by omega, rfl, J0⟩
  case round =>
    clear J0 mk'
    obtain ⟨i, hi, rfl, hI⟩ := hrel
    by_cases ci : i < al
    rotate_left
    · obtain rfl : i = al := by omega
      have d1 : decide ((i : Int) < (i : Int)) = false := by simp
      obtain ⟨Fc, S, G, hB, hS, hF, hc, hG, hb⟩ := hI.out
      have c0 : cnt Fc 1048576 = 0 := by omega
      have nF : ∀ x, ¬ Fc x := fun x hx => by
        have := cnt_pos hx 1048576 (hB.1 x hx)
        omega
      have TC : Hid (Calls Try.prog 15 #[.pointer (some ⟨b, 0, none⟩), .int .i64 0] wr fun e w' => e = .returned (.tuple #[.int .i64 0, .int .i64 7]) ∧ w' = wr) := by
        refine (hB.take 0 (by omega) (by omega)).mono ?_
        rintro e w' (⟨he, hw, _⟩ | ⟨p, f, q, d, _, T, _⟩)
        · exact ⟨he, hw⟩
        · exact absurd (T.cn.1 _ (blk_ne f q)) (nF _)
      have GC : Hid (∀ W', Below wr.heap.size wr W' → Calls Try.prog 18 #[.pointer (some ⟨b, 0, none⟩)] W' fun e w' => ∃ p c, e = .returned (.slice p i c) ∧ Below W'.heap.size W' w') := fun W' hb' => by
        refine ((hB.below hb').given (by omega)).mono ?_
        rintro e w' ⟨v, L, he, hA, hM, hO, hb2⟩
        obtain ⟨p, c, hv, _⟩ := lst_row hO
        have e2 : L.length = i := by
          rw [AL.out]
          refine cnt_keys (fun x hx => Nat.lt_trans (LF.out x hx) (by decide)) hA (fun x => ?_)
          rw [hM, hG]
          constructor
          · rintro ⟨j, e, h1, h2⟩; exact ⟨j, e, h1⟩
          · rintro ⟨j, e, h1⟩; exact ⟨j, e, h1, nF j⟩
        exact ⟨p, c, by rw [he, hv, e2], hb2⟩
      have HBW : Hid (Below w.heap.size w wr) := B1.out.trans (hb.mono B1.out.size)
      clear hB hS hF hc hG hb hI c0 nF
      go_wp2_with fail
      refine Calls.mono TC.out ?_
      rintro e u ⟨rfl, rfl⟩
      clear TC
      go_wp2_with fail
      refine Calls.mono (AWH.out _) ?_
      rintro e u2 ⟨rfl, hu⟩
      have GC2 : Hid (Calls Try.prog 18 #[.pointer (some ⟨b, 0, none⟩)] u2 fun e w' => ∃ p c, e = .returned (.slice p i c) ∧ Below u2.heap.size u2 w') := GC.out u2 hu
      have HU : Hid (Below w.heap.size w u2) := HBW.out.trans (hu.mono HBW.out.size)
      clear hu GC
      go_wp2_with fail
      refine Calls.mono GC2.out ?_
      rintro e u3 ⟨p, c, rfl, hu3⟩
      have HU3 : Hid (Below w.heap.size w u3) := HU.out.trans (hu3.mono HU.out.size)
      clear hu3
      go_wp2_with fail
      go_ret
      exact ⟨rfl, HU3.out⟩
    have d1 : decide ((i : Int) < (al : Int)) = true := by simp; omega
    have TC : Hid (Calls Try.prog 15 #[.pointer (some ⟨b, 0, none⟩), .int .i64 0] wr fun e w' => ∃ a : Nat, e = .returned (.tuple #[.int .i64 a, .int .i64 0]) ∧ a < 6000 ∧ (∃ (Fc S : Nat → Prop) (G : Int → Option Int), Bu (fun j => j < w1.heap.size ∨ j = sb) w' b (6000 + 20 * (i + 1)) Fc G ∧ Sn w' sb 6000 S ∧ (∀ x, Fc x → RU F0 m x ∧ ¬ S x ∧ x ≠ a) ∧ (i + 1) + cnt Fc 1048576 = al ∧ (∀ x : Int, (G x).isSome = true ↔ ∃ j : Nat, x = (j : Int) ∧ RU F0 m j ∧ ¬ Fc j) ∧ Below w1.heap.size w1 w' ∧ ¬ S a ∧ RU F0 m a)) := by
      obtain ⟨Fc, S, G, hB, hS, hF, hc, hG, hb⟩ := hI.out
      refine (hB.take 0 (by omega) (by omega)).mono ?_
      rintro e w' (⟨_, _, h⟩ | ⟨p, f, q, d, he, T, hB2, kf⟩)
      · exfalso
        obtain ⟨x, hx⟩ := cnt_some (F := Fc) (n := 1048576) (by omega)
        obtain ⟨k, q, hk, hcn⟩ := cn_some hx
        exact h k q (Nat.zero_le _) hk hcn
      · have Fp : Fc p := T.all p (by simp)
        have Rp := hF p Fp
        have e1 : ((p * 2 ^ 0 : Nat) : Int) = (p : Int) := by simp
        rw [e1] at he hB2
        have cn : cnt (fun i => Fc i ∧ ¬ i / 2 ^ 0 = p) 1048576 + 2 ^ 0 = cnt Fc 1048576 := by
          have e := cnt_sub Fc (fun i => i / 2 ^ 0 = p) (fun i hi => T.all i hi) 1048576
          rw [cnt_blk (by have := LF.out p Rp.1; simp; omega)] at e
          exact e
        refine ⟨p, he, LF.out p Rp.1, _, S, _, hB2.mono (by omega), hS.block (kf.block sb hS.lt (fun h => h (Or.inr rfl))), fun x hx => ⟨(hF x hx.1).1, (hF x hx.1).2, fun e => hx.2 (by rw [e]; simp)⟩, by simp at cn ⊢; omega, fun x => ?_, ?_, Rp.2, Rp.1⟩
        · by_cases c : x = (p : Int)
          · subst c
            rw [set_same]
            exact ⟨fun _ => ⟨p, rfl, Rp.1, fun h => h.2 (by simp)⟩, fun _ => rfl⟩
          · rw [set_other _ _ _ _ c, hG]
            constructor
            · rintro ⟨j, e, h1, h2⟩; exact ⟨j, e, h1, fun h => h2 h.1⟩
            · rintro ⟨j, e, h1, h2⟩
              refine ⟨j, e, h1, fun h => h2 ⟨h, fun q => c ?_⟩⟩
              simp at q
              rw [e, q]
        · exact hb.trans ⟨kf.os, kf.tape, kf.output, kf.size, fun j hj => kf.block j (Nat.lt_of_lt_of_le hj hb.size) (fun h => h (Or.inl hj))⟩
    clear hI
    go_wp2_with fail
    refine Calls.mono TC.out ?_
    rintro e u ⟨a, rfl, a6, hN⟩
    have HN : Hid (∃ (Fc S : Nat → Prop) (G : Int → Option Int), Bu (fun j => j < w1.heap.size ∨ j = sb) u b (6000 + 20 * (i + 1)) Fc G ∧ Sn u sb 6000 S ∧ (∀ x, Fc x → RU F0 m x ∧ ¬ S x ∧ x ≠ a) ∧ (i + 1) + cnt Fc 1048576 = al ∧ (∀ x : Int, (G x).isSome = true ↔ ∃ j : Nat, x = (j : Int) ∧ RU F0 m j ∧ ¬ Fc j) ∧ Below w1.heap.size w1 u ∧ ¬ S a ∧ RU F0 m a) := hN
    clear hN TC
    have a0 : decide ((a : Int) < 0) = false := by simp
    have a1 : decide ((6000 : Int) ≤ (a : Int)) = false := by simp; omega
    have a2 : decide ((a : Int) < 6000) = true := by simp; omega
    have facts : (u.cell? ⟨sb, a, none⟩ = some (.bool false) ∧ sb < u.heap.size) ∧ Hid (Calls Try.prog 29 #[.slice (some ⟨g, 0, none⟩) m cap, .int .i64 a] u fun e w' => e = .returned (.bool true) ∧ Below u.heap.size u w') := by
      obtain ⟨Fc, S, G, hB, hS, hF, hc, hG, hb, nS, Ra⟩ := HN.out
      exact ⟨⟨(hS.no a6 nS).1, hS.lt⟩, some_any g m cap F0 a true ⟨fun _ => Ra, fun _ => rfl⟩ (by omega) u (HR.out.below hb)⟩
    obtain ⟨⟨ca, lsb⟩, SC⟩ := facts
    go_wp2_with fail
    refine Calls.mono SC.out ?_
    rintro e u2 ⟨rfl, hu⟩
    have facts : (u2.cell? ⟨sb, a, none⟩ = some (.bool false) ∧ u2.frozen? ⟨sb, a, none⟩ = false ∧ sb < u2.heap.size) ∧ Hid (Calls Try.prog 21 #[.pointer (some ⟨b, 0, none⟩)] u2 fun e w' => e = .returned (.int .i64 ((al : Int) - (i : Int) - 1)) ∧ w' = u2) ∧ Hid (∃ (Fc S : Nat → Prop) (G : Int → Option Int), Bu (fun j => j < w1.heap.size ∨ j = sb) (u2.setCell ⟨sb, a, none⟩ (.bool true)) b (6000 + 20 * (i + 1)) Fc G ∧ Sn (u2.setCell ⟨sb, a, none⟩ (.bool true)) sb 6000 S ∧ (∀ x, Fc x → RU F0 m x ∧ ¬ S x) ∧ (i + 1) + cnt Fc 1048576 = al ∧ (∀ x : Int, (G x).isSome = true ↔ ∃ j : Nat, x = (j : Int) ∧ RU F0 m j ∧ ¬ Fc j) ∧ Below w1.heap.size w1 (u2.setCell ⟨sb, a, none⟩ (.bool true))) := by
      obtain ⟨Fc, S, G, hB, hS, hF, hc, hG, hb, nS, Ra⟩ := HN.out
      have hS2 := hS.block (hu.block sb hS.lt)
      have hB2 := hB.below hu
      have kf := Kf.set (S := fun j => j = sb) u2 sb a (.bool true) rfl
      refine ⟨⟨(hS2.no a6 nS).1, (hS2.no a6 nS).2, hS2.lt⟩, ?_, Fc, _, G, ?_, hS2.set a6 (S' := fun j => S j ∨ j = a) (fun j => Iff.rfl), fun x hx => ⟨(hF x hx).1, fun h => h.elim (hF x hx).2.1 (hF x hx).2.2⟩, hc, hG, ?_⟩
      · have r := hB2.free
        rw [show ((cnt Fc 1048576 : Nat) : Int) = (al : Int) - (i : Int) - 1 by omega] at r
        exact r
      · exact (hB2.next kf.size (fun j hj nz => kf.block j hj (fun e => nz (Or.inr e)))).less (fun j h => Or.inl h)
      · have b2 : Below w1.heap.size w1 u2 := hb.trans (hu.mono hb.size)
        exact b2.trans ⟨kf.os, kf.tape, kf.output, kf.size, fun j hj => kf.block j (Nat.lt_of_lt_of_le hj b2.size) (fun e => by have := LS.out; omega)⟩
    obtain ⟨⟨cb, fb, lsb2⟩, FC, J2⟩ := facts
    have ee : ((al : Int) - (i : Int) - 1 != (al : Int) - (i : Int) - 1) = false := by simp
    clear HN SC hu ca
    go_wp2_with fail
    refine Calls.mono FC.out ?_
    rintro e u3 ⟨rfl, rfl⟩
    clear FC
    go_wp2_with fail
    go_roundw
    case rel => exact ⟨i + 1, by omega, by go_num, J2⟩
    case measure => simp [Go.RowKit.intOf]; omega

theorem own : ownKnob Try.prog.godebug = none := by kernel_rfl
theorem laidOut : laidOutB Try.prog = true := by kernel_rfl
set_option maxRecDepth 100000 in
theorem lifted (os : Os) (started : os.Started) (H : Type) (enc : TypeId × Value → H) :
    ReturnsInHanded {} Try.checked os 6 .any (Rows.buddyLowSpec.pre6 enc Try.prog Try.f6 Rows.buddyLowRow.domain false) (Rows.buddyLowSpec.post enc Try.prog Try.f6 false true false false) := by
  refine returnsInHanded_of_change (C := Try.checked) own started (by kernel_rfl) Try.func6
    (ChangeSpec.witness6 (enc := enc) (C := Try.checked) false ⟨#[], #[.slice none 0 0], []⟩ 8 (by kernel_rfl) (by kernel_rfl) (by kernel_rfl) (by kernel_rfl)) ?_
  intro W base args ds gs before hval0 hW hcnd _
  have hval : ∀ (j : Nat) t v, Try.f6.params[j]? = some t → args[j]? = some v → Value.okWide Try.prog W .any base t v := hval0
  have hW' := hW
  obtain ⟨p, q, hA0, hV, hbef, hfz, hnd⟩ := hW
  have hA : DataW.TrodAll enc Try.prog W 0 (fun _ => true) true Try.f6.params.toList args.toList ds p := hA0
  have hAk := hA
  have hlt : ∀ x ∈ p, x.block < W.heap.size := fun x hx => hW'.lt x (by rw [hbef]; exact List.mem_append_left _ hx)
  rw [Try.params6] at hA hval
  obtain ⟨v0, vs0, d0, ds0, p0, q0, hargs, rfl, hp0, h0, r0⟩ := trodAll_cons hA
  obtain ⟨rfl, rfl, hpz⟩ := trodAll_nil r0
  obtain rfl : args = #[v0] := by cases args; simp_all
  obtain ⟨rfl, rfl⟩ := trodVars_none hV
  obtain ⟨p0, n0, c0, F0, rfl, m0, l0, H0⟩ := open_rgs (hval 0 22 v0 rfl rfl) h0
  clear hA0 hval0
  refine (walk p0 n0 c0 F0 m0 l0 W H0).mono fun e W' ⟨he, hg⟩ => ?_
  subst he
  exact ⟨_, rfl, ⟨_, _, _, [], p, [], hW', (trodAll_cons_mk (shut_bool Try.underlying4 _) trodAll_mk0), args_stay laidOut hg (by kernel_rfl) hAk hlt, rfl, hg.frame _, fun h => by cases h⟩⟩

theorem over : Rows.buddyLowRow.holds Try.pinned (OpenSpec.ofChange Rows.buddyLowSpec) :=
  OpenClaim.holds_of_wide 6 Try.f6 rfl rfl rfl rfl rfl rfl rfl ⟨rfl, rfl, rfl, rfl, rfl⟩ rfl rfl rfl rfl rfl (by kernel_rfl) Try.func6 (by kernel_rfl)
    (of_decide_eq_true (by kernel_rfl)) (by unfold Func.isWrapper; first | (rw [if_pos (by decide +kernel)]; kernel_rfl) | (rw [if_neg (by decide +kernel)]; exact ⟨rfl, rfl⟩))
    (fun os started H enc _ => lifted os started H enc)

theorem proved : Rows.BuddyLowSaid :=
  over
#print axioms proved
end Go.Proofs.Ytpjejjonkdhelaa.buddyLow
