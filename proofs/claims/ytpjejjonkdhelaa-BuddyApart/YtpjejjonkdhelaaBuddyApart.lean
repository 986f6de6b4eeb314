/- For any ranges and any calls: blocks, free or given, never meet, begin at multiples of their size, and have just the frames that there were; of at most 70 ranges below frame 6000, any 40 calls; no condition. -/
import Derived.Test.YtpjejjonkdhelaaRows
import Derived.ProofKit
import Derived.OpenShut
import Derived.Carry
import Derived.Test.YtpjejjonkdhelaaBDR
import Derived.Laws.ShiftsVar
namespace Go.Proofs.Ytpjejjonkdhelaa.buddyApart
open Go.ChangeShapes Go.WideShapes Go.ChangeAt Go.RowKit Go.Maps
set_option linter.unusedSimpArgs false
set_option linter.unusedVariables false
theorem pw_facts {o : Nat} (ho : o ≤ 10) : ∃ m : Nat, m = 2 ^ o ∧ 1 ≤ m ∧ m ≤ 1024 ∧ (∀ q : Nat, q = o → IntKind.i64.wrap ((2 : Int) ^ q) = (m : Int)) ∧ (∀ q : Nat, q = o → wrap64 ((2 : Int) ^ q) = (m : Int)) := by
  have l := pow_small ho
  have p := p2pos o
  have h3 := wrap_pow ho
  refine ⟨2 ^ o, rfl, p, l, ?_, ?_⟩
  · rintro q rfl
    rw [Go.IntWalk.i64_left]; exact h3
  · rintro q rfl
    exact h3
/-- a list of ints in a block that is not older than lo -/
def Lsl (w : World) (lo : Nat) (v : Value) (L : List Int) : Prop := ∃ p c, v = .slice p L.length c ∧ ∀ i (hi : i < L.length), ∃ g, p = some ⟨g, 0, none⟩ ∧ lo ≤ g ∧ g < w.heap.size ∧ w.cell? ⟨g, i, none⟩ = some (.int .i64 L[i])
theorem lsl_row {w : World} {base lo : Nat} {v : Value} {L : List Int} (O : w.ownsRow base 3 1 v L.length (L.map (Value.int .i64))) (hl : lo ≤ base) : Lsl w lo v L := by
  have hc := fun g (hg : v.ownBlock = some g) => World.ownsRow.cells (g := g) O hg
  obtain ⟨hl', ⟨hv, h0⟩ | ⟨g, cap, cur, hv, hb, hblk, _⟩⟩ := O
  · exact ⟨Option.none, 0, by rw [hv, h0], fun i hi => absurd hi (by omega)⟩
  · refine ⟨_, _, hv, fun i hi => ⟨g, rfl, Nat.le_trans hl hb, blk_lt hblk, ?_⟩⟩
    have := hc g (by rw [hv]; rfl) i (.int .i64 L[i]) (by rw [List.getElem?_map, List.getElem?_eq_getElem hi]; rfl)
    rw [Addr.add_mid, Nat.zero_add] at this; exact this
theorem Lsl.keep {w W : World} {lo sb : Nat} {v : Value} {L : List Int} (H : Lsl w lo v L) (kf : Kf (fun j => j = sb) w W) (hl : sb < lo) : Lsl W lo v L := by
  obtain ⟨p, c, hv, h⟩ := H
  refine ⟨p, c, hv, fun i hi => ?_⟩
  obtain ⟨g, e, l0, lg, hc⟩ := h i hi
  exact ⟨g, e, l0, Nat.lt_of_lt_of_le lg kf.size, by rw [World.cell?_of_block (w := w) (a := ⟨g, i, none⟩) (kf.block g lg (by omega))]; exact hc⟩
theorem blocks_len {F : Nat → Prop} {k : Nat} {L : List Int} (hB : Bnd F) (hA : Asc L) (hM : ∀ x, x ∈ L ↔ can F k x) : L.length ≤ 1048576 := by
  have top : ∀ x, x ∈ L → ∃ q : Nat, x = ((q * 2 ^ k : Nat) : Int) ∧ q * 2 ^ k + 2 ^ k ≤ 1048576 := fun x hx => by
    obtain ⟨_, q, e, cq⟩ := (hM x).1 hx
    have p := p2pos k
    have := hB _ (can_last cq)
    refine ⟨q, e, ?_⟩
    generalize 2 ^ k = Q at *
    generalize q * Q = X at *
    omega
  have e1 := cnt_list k 1048576 L (asc_nd hA) top
  have e2 := cnt_le (inL k L) 1048576
  have p := p2pos k
  exact Nat.le_trans (Nat.le_mul_of_pos_right _ p) (by rw [← e1]; exact e2)
theorem uk_inl {F : Nat → Prop} {k : Nat} {L : List Int} (hk : k ≤ 10) (hM : ∀ x, x ∈ L ↔ can F k x) : (fun x => Uk F k x ∨ inL k L x) = Uk F (k + 1) := by
  funext i; apply propext
  constructor
  · rintro (⟨o, h1, h2, q, c, e⟩ | ⟨a, ha, q, hq, e⟩)
    · exact ⟨o, by omega, h2, q, c, e⟩
    · refine ⟨k, by omega, hk, q, ?_, e⟩
      rw [hM, hq] at ha
      exact (can_iff hk).1 ha
  · rintro ⟨o, h1, h2, q, c, e⟩
    by_cases d : o = k
    · subst d; exact Or.inr ⟨_, (hM _).2 ⟨h2, q, rfl, c⟩, q, rfl, e⟩
    · exact Or.inl ⟨o, by omega, h2, q, c, e⟩
theorem take_more {L : List Int} {i : Nat} (hi : i < L.length) (a : Int) : a ∈ L.take (i + 1) ↔ a ∈ L.take i ∨ a = L[i] := by
  rw [List.take_add_one, List.getElem?_eq_getElem hi, List.mem_append]
  show _ ∨ a ∈ [L[i]] ↔ _
  rw [List.mem_singleton]
theorem take_nd {L : List Int} {i : Nat} (N : Nd L) (hi : i < L.length) : ¬ L[i] ∈ L.take i := fun h => by
  obtain ⟨j, hj, e⟩ := List.getElem_of_mem h
  rw [List.length_take] at hj
  rw [List.getElem_take] at e
  exact N j i L[i] (by omega) (by rw [List.getElem?_eq_getElem (by omega), e]) (List.getElem?_eq_getElem hi)
theorem inl_take {o q i : Nat} {L : List Int} {x : Nat} (hi : i < L.length) (hq : L[i] = ((q * 2 ^ o : Nat) : Int)) : inL o (L.take (i + 1)) x ↔ inL o (L.take i) x ∨ x / 2 ^ o = q := by
  constructor
  · rintro ⟨a, ha, q2, e, h⟩
    rcases (take_more hi a).1 ha with r | r
    · exact Or.inl ⟨a, r, q2, e, h⟩
    · rw [r, hq] at e
      right
      rw [h]; exact (mul_inj e).symm
  · rintro (⟨a, ha, q2, e, h⟩ | h)
    · exact ⟨a, (take_more hi a).2 (Or.inl ha), q2, e, h⟩
    · exact ⟨L[i], (take_more hi _).2 (Or.inr rfl), q, hq, h⟩
/-- the frames of given blocks that are listed -/
def gL (G : Int → Option Int) (L : List Int) (x : Nat) : Prop := ∃ a, a ∈ L ∧ ∃ k p : Nat, k ≤ 10 ∧ a = ((p * 2 ^ k : Nat) : Int) ∧ G a = some (k : Int) ∧ x / 2 ^ k = p
theorem gl_take {G : Int → Option Int} {k q i : Nat} {L : List Int} {x : Nat} (hi : i < L.length) (hq : L[i] = ((q * 2 ^ k : Nat) : Int)) (hg : G ((q * 2 ^ k : Nat) : Int) = some (k : Int)) (hk : k ≤ 10 := by omega) : gL G (L.take (i + 1)) x ↔ gL G (L.take i) x ∨ x / 2 ^ k = q := by
  constructor
  · rintro ⟨a, ha, k2, q2, l2, e, g2, h⟩
    rcases (take_more hi a).1 ha with r | r
    · exact Or.inl ⟨a, r, k2, q2, l2, e, g2, h⟩
    · right
      rw [r, hq, hg] at g2
      have e1 : k = k2 := by have := Option.some.inj g2; omega
      subst e1
      rw [r, hq] at e
      rw [h]; exact (mul_inj e).symm
  · rintro (⟨a, ha, k2, q2, l2, e, g2, h⟩ | h)
    · exact ⟨a, (take_more hi a).2 (Or.inl ha), k2, q2, l2, e, g2, h⟩
    · exact ⟨L[i], (take_more hi _).2 (Or.inr rfl), k, q, hk, hq, by rw [hq]; exact hg, h⟩
theorem gl_all {All F : Nat → Prop} {G : Int → Option Int} (S : St All F G) {L : List Int} (hM : ∀ x, x ∈ L ↔ (G x).isSome = true) : (fun x => F x ∨ gL G L x) = All := by
  funext x; apply propext
  constructor
  · rintro (h | ⟨a, ha, k, p, l, e, g, h⟩)
    · exact S.sub x h
    · rw [e] at g
      exact ((S.blk g).2.2 x h).1
  · intro h
    rcases S.all x h with r | ⟨k, p, l, g, e⟩
    · exact Or.inl r
    · exact Or.inr ⟨_, (hM _).2 (by rw [g]; rfl), k, p, l, rfl, g, e⟩

set_option maxRecDepth 8000 in
set_option maxHeartbeats 16000000 in
theorem walk (p0 : Option Addr) (n0 c0 : Nat) (F0 : Nat → Int × Int) (m0 : n0 ≤ maxLen) (l0 : n0 ≤ c0) (p1 : Option Addr) (n1 c1 : Nat) (A1 : Nat → Int × Int) (m1 : n1 ≤ maxLen) (l1 : n1 ≤ c1) (w : World) (H0 : IsRgs w p0 n0 F0) (H1 : IsActs w p1 n1 A1) :
    Calls Try.prog 5 #[.slice p0 n0 c0, .slice p1 n1 c1] w fun e w' => e = .returned (.bool true) ∧ Below w.heap.size w w' := by
  have AWH : Hid (∀ W : World, Calls Try.prog 12 #[] W fun e w' => e = .returned (.bool true) ∧ Below W.heap.size W w') := fun W => awake_any W
  obtain ⟨m, hm⟩ : ∃ m, m = min n0 70 := ⟨_, rfl⟩
  have FW : Hid (Calls Try.prog 9 #[.slice p0 n0 c0, .int .i64 70] w fun e w' => ∃ g cap, e = .returned (.slice (some ⟨g, 0, none⟩) m cap) ∧ w.heap.size ≤ g ∧ Rgs w' g m F0 ∧ Below w.heap.size w w') := few_any p0 n0 c0 F0 m hm w H0 l0 m0
  have m70 : m ≤ 70 := by omega
  have HA : Hid (IsActs w p1 n1 A1) := H1
  have mm : (n1 : Int) ≤ 9223372036854775807 := by have : maxLen ≤ 9223372036854775807 := by decide +kernel
                                                   omega
  clear H0 l0 m0 hm H1 m1 l1
  go_enter Try.func5, Try.ntmps5
  go_wp2_with fail
  refine Calls.mono FW.out ?_
  rintro e w1 ⟨g, cap, rfl, hg, hR, hb⟩
  have HR : Hid (Rgs w1 g m F0) := hR
  have B1 : Hid (Below w.heap.size w w1) := hb
  clear hg hR hb FW
  by_cases c64 : 64 < m
  · -- too many
    have NC : Hid (Calls Try.prog 10 #[.slice (some ⟨g, 0, none⟩) m cap] w1 fun e w' => e = .returned (.tuple #[.pointer none, .int .i64 4]) ∧ Below w1.heap.size w1 w') := by
      refine (new_big g m cap c64 w1).mono ?_
      rintro e w' ⟨he, rfl⟩
      exact ⟨he, Below.refl _ _⟩
    go_wp2_with fail
    refine Calls.mono NC.out ?_
    rintro e w2 ⟨rfl, hb2⟩
    have B2 : Hid (Below w.heap.size w w2) := B1.out.trans (hb2.mono B1.out.size)
    clear hb2 NC
    go_wp2_with fail
    refine Calls.mono (AWH.out _) ?_
    rintro e w3 ⟨rfl, hb3⟩
    have B3 : Hid (Below w.heap.size w w3) := B2.out.trans (hb3.mono B2.out.size)
    clear hb3
    go_wp2_with fail
    go_ret
    exact ⟨rfl, B3.out⟩

  by_cases fo : Form F0 m
  rotate_left
  · -- not in form
    have NC : Hid (Calls Try.prog 10 #[.slice (some ⟨g, 0, none⟩) m cap] w1 fun e w' => e = .returned (.tuple #[.pointer none, .int .i64 3]) ∧ Below w1.heap.size w1 w') := by
      exact new_form g m cap (by omega) F0 w1 HR.out fo
    go_wp2_with fail
    refine Calls.mono NC.out ?_
    rintro e w2 ⟨rfl, hb2⟩
    have B2 : Hid (Below w.heap.size w w2) := B1.out.trans (hb2.mono B1.out.size)
    clear hb2 NC
    go_wp2_with fail
    refine Calls.mono (AWH.out _) ?_
    rintro e w3 ⟨rfl, hb3⟩
    have B3 : Hid (Below w.heap.size w w3) := B2.out.trans (hb3.mono B2.out.size)
    clear hb3
    go_wp2_with fail
    go_ret
    exact ⟨rfl, B3.out⟩

  have NC : Hid (Calls Try.prog 10 #[.slice (some ⟨g, 0, none⟩) m cap] w1 fun e w' => ∃ b, e = .returned (.tuple #[.pointer (some ⟨b, 0, none⟩), .int .i64 0]) ∧ Bu (fun j => j < w1.heap.size) w' b (endAt F0 m).toNat (RU F0 m) noneF ∧ Below w1.heap.size w1 w') := new_ok g m cap (by omega) F0 w1 HR.out fo
  have FO : Hid (Form F0 m) := fo
  clear fo
  go_wp2_with fail
  refine Calls.mono NC.out ?_
  rintro e w2 ⟨b, rfl, hB, hb2⟩
  have B2 : Hid (Below w1.heap.size w1 w2) := hb2
  have HB : Hid (Bu (fun j => j < w1.heap.size) w2 b (endAt F0 m).toNat (RU F0 m) noneF) := hB
  clear hB hb2 NC
  by_cases lo : ∀ i, i < m → (F0 i).2 ≤ 6000
  rotate_left
  · have LC : Hid (Calls Try.prog 13 #[.slice (some ⟨g, 0, none⟩) m cap, .int .i64 6000] w2 fun e w' => e = .returned (.bool false) ∧ Below w2.heap.size w2 w') := low_any' g m cap F0 6000 false ⟨(fun h => by cases h), fun h => absurd h lo⟩ (by omega) w2 (HR.out.below B2.out)
    clear lo
    go_wp2_with fail
    refine Calls.mono LC.out ?_
    rintro e w3 ⟨rfl, hb3⟩
    have B3 : Hid (Below w.heap.size w w3) := B1.out.trans ((B2.out.trans (hb3.mono B2.out.size)).mono B1.out.size)
    clear hb3
    go_wp2_with fail
    refine Calls.mono (AWH.out _) ?_
    rintro e w4 ⟨rfl, hb4⟩
    have B4 : Hid (Below w.heap.size w w4) := B3.out.trans (hb4.mono B3.out.size)
    clear hb4
    go_wp2_with fail
    go_ret
    exact ⟨rfl, B4.out⟩
  have LC : Hid (Calls Try.prog 13 #[.slice (some ⟨g, 0, none⟩) m cap, .int .i64 6000] w2 fun e w' => e = .returned (.bool true) ∧ Below w2.heap.size w2 w') := low_any' g m cap F0 6000 true ⟨fun _ => lo, fun _ => rfl⟩ (by omega) w2 (HR.out.below B2.out)
  have LF : Hid (∀ x, RU F0 m x → x < 6000) := fun x hx => by
    obtain ⟨j, h1, h2, h3⟩ := hx
    have := lo j h1
    omega
  have EN : Hid ((endAt F0 m).toNat ≤ 6000) := by
    show _ ≤ _
    cases m with
    | zero => exact Nat.zero_le _
    | succ m => have := lo m (by omega); show (F0 m).2.toNat ≤ 6000; omega
  clear lo
  go_wp2_with fail
  refine Calls.mono LC.out ?_
  rintro e w4 ⟨rfl, hb4⟩
  have B4 : Hid (Below w1.heap.size w1 w4) := B2.out.trans (hb4.mono B2.out.size)
  have J0 : Hid (Iv (fun j => j < w1.heap.size) w4 (RU F0 m) b (6000 + 20 * 0) w4) := ⟨(RU F0 m), noneF, (HB.out.below hb4).mono EN.out, St.start (fun x hx => Nat.lt_trans (LF.out x hx) (by decide)), Kf.refl _ _⟩
  have W1N : Hid (∀ W, Kf (fun j => ¬ (fun j => j < w1.heap.size) j) w4 W → Below w1.heap.size w1 W) := fun W kf => B4.out.trans ⟨kf.os, kf.tape, kf.output, kf.size, fun j hj => kf.block j (Nat.lt_of_lt_of_le hj B4.out.size) (fun z => z hj)⟩
  have WN : Hid (∀ W, Kf (fun j => ¬ (fun j => j < w1.heap.size) j) w4 W → Below w.heap.size w W) := fun W kf => B1.out.trans ((W1N.out W kf).mono B1.out.size)
  clear hb4 LC HB B2
  go_wp2_with fail
  go_loopw [7] (fun vi W => ∃ k : Nat, k ≤ n1 ∧ k ≤ 40 ∧ vi = .int .i64 k ∧ Hid (Iv (fun j => j < w1.heap.size) w4 (RU F0 m) b (6000 + 20 * k) W)) (fun vi _ => 40 - (Go.RowKit.intOf vi).toNat)
  case atStart => exact ⟨0, by omega, by omega, rfl, J0⟩
  case round =>
    clear J0
    obtain ⟨k, hk, hk6, rfl, hI⟩ := hrel
    by_cases hlt : k < n1 ∧ k < 40
    · have hd : decide ((k : Int) < (n1 : Int)) = true := by simp; omega
      have hd2 : decide ((k : Int) < 40) = true := by simp; omega
      have hd0 : decide ((k : Int) < 0) = false := by simp
      obtain ⟨pb, po, rfl, lpb, ca, cb, wa, wb⟩ := HA.out k hlt.1
      obtain ⟨kd, hkd⟩ : ∃ x, x = (A1 k).1 := ⟨_, rfl⟩
      obtain ⟨ord, hord⟩ : ∃ x, x = (A1 k).2 := ⟨_, rfl⟩
      rw [← hkd] at ca wa
      rw [← hord] at cb wb
      have ACT0 : Hid (∀ W, Below w.heap.size w W → (W.cell? ⟨pb, po + k * 2, none⟩ = some (.int .i64 kd) ∧ W.cell? ⟨pb, po + k * 2 + 1, none⟩ = some (.int .i64 ord)) ∧ pb < W.heap.size) := fun W hb => ⟨⟨by rw [World.cell?_of_block (w := w) (a := ⟨pb, po + k * 2, none⟩) (hb.block pb lpb)]; exact ca, by rw [World.cell?_of_block (w := w) (a := ⟨pb, po + k * 2 + 1, none⟩) (hb.block pb lpb)]; exact cb⟩, Nat.lt_of_lt_of_le lpb hb.size⟩
      have ACT : Hid (∀ W, Iv (fun j => j < w1.heap.size) w4 (RU F0 m) b (6000 + 20 * k) W → (W.cell? ⟨pb, po + k * 2, none⟩ = some (.int .i64 kd) ∧ W.cell? ⟨pb, po + k * 2 + 1, none⟩ = some (.int .i64 ord))) := fun W ⟨F, G, hB, hS, kf⟩ => (ACT0.out W (WN.out W kf)).1
      have ACT2 : Hid (∀ W, Iv (fun j => j < w1.heap.size) w4 (RU F0 m) b (6000 + 20 * (k + 1)) W → (W.cell? ⟨pb, po + k * 2, none⟩ = some (.int .i64 kd) ∧ W.cell? ⟨pb, po + k * 2 + 1, none⟩ = some (.int .i64 ord))) := fun W ⟨F, G, hB, hS, kf⟩ => (ACT0.out W (WN.out W kf)).1
      obtain ⟨⟨qa, qb⟩, lpb'⟩ : (wr.cell? ⟨pb, po + k * 2, none⟩ = some (.int .i64 kd) ∧ wr.cell? ⟨pb, po + k * 2 + 1, none⟩ = some (.int .i64 ord)) ∧ pb < wr.heap.size := by
        obtain ⟨F, G, hB, hS, kf⟩ := hI.out
        exact ACT0.out wr (WN.out wr kf)
      have WB : Hid ((Lit.int .i64 ord).wf = true) := wb
      clear ca cb wa wb hkd hord lpb
      by_cases k1 : kd = 1
      · have e1 : (kd == 1) = true := by simp [k1]
        have TC : Hid (Calls Try.prog 15 #[.pointer (some ⟨b, 0, none⟩), .int .i64 ord] wr fun e w' => (∃ a c, e = .returned (.tuple #[.int .i64 a, .int .i64 c])) ∧ Iv (fun j => j < w1.heap.size) w4 (RU F0 m) b (6000 + 20 * (k + 1)) w') := by
          refine (hI.out.take ord (by omega)).mono ?_
          rintro e w' ⟨he, h⟩
          exact ⟨he, h.mono (by omega)⟩
        clear k1 hI
        go_wp2_with fail
        refine Calls.mono TC.out ?_
        rintro e u ⟨⟨a1, a2, rfl⟩, hI2⟩
        have J2 : Hid (Iv (fun j => j < w1.heap.size) w4 (RU F0 m) b (6000 + 20 * (k + 1)) u) := hI2
        clear hI2 TC
        go_wp2_with fail
        go_roundw
        case rel => exact ⟨k + 1, by omega, by omega, by go_num, J2⟩
        case measure => simp [Go.RowKit.intOf]; omega
      have e1 : (kd == 1) = false := by simp [k1]
      have GVC : Hid (∀ W, Iv (fun j => j < w1.heap.size) w4 (RU F0 m) b (6000 + 20 * k) W → Calls Try.prog 18 #[.pointer (some ⟨b, 0, none⟩)] W fun e w' => ∃ (p : Option Addr) (L : List Int) (c : Nat), e = .returned (.slice p L.length c) ∧ Lst w' (.slice p L.length c) L ∧ (∀ x, x ∈ L → (Lit.int .i64 x).wf = true) ∧ L.length ≤ 1048576 ∧ Below W.heap.size W w') := fun W h => h.given (by omega)
      have WHC : Hid (∀ (W : World) (p : Option Addr) (L : List Int) (c : Nat), (Lst W (.slice p L.length c) L ∧ (∀ x, x ∈ L → (Lit.int .i64 x).wf = true) ∧ L.length ≤ 1048576) → Calls Try.prog 17 #[.slice p L.length c, .agg #[.int .i64 kd, .int .i64 ord]] W fun e w' => (∃ x, e = .returned (.int .i64 x) ∧ (Lit.int .i64 x).wf = true) ∧ Below W.heap.size W w') := fun W p L c h => which_any p L c kd ord WB.out W h.1 h.2.1 h.2.2
      have GIC : Hid (∀ (W : World) (x : Int), (Lit.int .i64 x).wf = true → Iv (fun j => j < w1.heap.size) w4 (RU F0 m) b (6000 + 20 * k) W → Calls Try.prog 19 #[.pointer (some ⟨b, 0, none⟩), .int .i64 x] W fun e w' => (∃ c, e = .returned (.int .i64 c)) ∧ Iv (fun j => j < w1.heap.size) w4 (RU F0 m) b (6000 + 20 * (k + 1)) w') := fun W x hx h => by
        refine (h.give hx (by omega)).mono ?_
        rintro e w' ⟨he, h⟩
        exact ⟨he, h.mono (by omega)⟩
      clear k1
      go_upto_region 12 with fail
      refine wp_region_noPanic ?_
      refine wp_region_held_drew (S := fun c => c.cell? ⟨pb, po + k * 2, none⟩ = some (.int .i64 kd) ∧ c.cell? ⟨pb, po + k * 2 + 1, none⟩ = some (.int .i64 ord)) (by kernel_rfl) ?_ (fun hHeld => ?_)
      · exact ⟨qa, qb⟩
      have IU : Hid (Iv (fun j => j < w1.heap.size) w4 (RU F0 m) b (6000 + 20 * k) wr.drew) := hI.out.drew
      clear hI
      generalize wr.drew = U at IU hHeld ⊢
      refine wpAnyH_take (i := 0) (oi := ⟨some 59, _, _, _, _, none⟩) (v := ?_) rfl (by kernel_rfl) (by kernel_rfl) (by kernel_rfl) (fun _ _ _ h => h) (Or.inl ⟨by rfl, ?_⟩) (by assumption) ?_
      rotate_left
      · intro w hSw; (try dsimp only at hSw); go_simp; (try with_reducible rfl)
      try simp only [Act.put, List.setIfInBounds_toArray, List.set_cons_zero, List.set_cons_succ]
      refine wpAnyH_take (i := 1) (oi := ⟨some 60, _, _, _, _, none⟩) (v := ?_) rfl (by kernel_rfl) (by kernel_rfl) (by kernel_rfl) (fun _ _ _ h => h) (Or.inl ⟨by rfl, ?_⟩) (by assumption) ?_
      rotate_left
      · intro w hSw; (try dsimp only at hSw); go_simp; (try with_reducible rfl)
      try simp only [Act.put, List.setIfInBounds_toArray, List.set_cons_zero, List.set_cons_succ]
      refine wpAnyH_take (i := 3) (oi := ⟨some 62, _, _, _, _, none⟩) (v := ?_) rfl (by kernel_rfl) (by kernel_rfl) (by kernel_rfl) (fun _ _ _ h => h) (Or.inl ⟨by rfl, ?_⟩) (by assumption) ?_
      rotate_left
      · intro w hSw; (try dsimp only at hSw); go_simp; (try with_reducible rfl)
      try simp only [Act.put, List.setIfInBounds_toArray, List.set_cons_zero, List.set_cons_succ]
      refine wpAnyH_take (i := 4) (oi := ⟨some 63, _, _, _, _, none⟩) (v := ?_) rfl (by kernel_rfl) (by kernel_rfl) (by kernel_rfl) (fun _ _ _ h => h) (Or.inl ⟨by rfl, ?_⟩) (by assumption) ?_
      rotate_left
      · intro w hSw; (try dsimp only at hSw); go_simp; (try with_reducible rfl)
      try simp only [Act.put, List.setIfInBounds_toArray, List.set_cons_zero, List.set_cons_succ]
      refine wpAnyH_take (i := 5) (oi := ⟨some 64, _, _, _, _, none⟩) (v := (.pointer (some ⟨pb, po + k * 2, none⟩))) rfl (by kernel_rfl) (by kernel_rfl) (by kernel_rfl) (fun _ _ _ h => h) (Or.inl ⟨by rfl, ?_⟩) (by assumption) ?_
      · intro w hSw; (try dsimp only at hSw); go_simp; (try simp); (try (simp only [IntKind.wrap_i64]; omega))
      try simp only [Act.put, List.setIfInBounds_toArray, List.set_cons_zero, List.set_cons_succ]
      refine wpAnyH_take (i := 6) (oi := ⟨some 65, _, _, _, _, none⟩) (v := (.agg #[.int .i64 kd, .int .i64 ord])) rfl (by kernel_rfl) (by kernel_rfl) (by kernel_rfl) (fun _ _ _ h => h) (Or.inl ⟨by rfl, ?_⟩) (by assumption) ?_
      · intro w hSw; (try dsimp only at hSw); have q0 : w.cell? ⟨pb, po + k * 2, none⟩ = some (.int .i64 kd) := hSw.1; have q1 : w.cell? ⟨pb, po + k * 2 + 1, none⟩ = some (.int .i64 ord) := hSw.2; go_simp; (try simp)
      try simp only [Act.put, List.setIfInBounds_toArray, List.set_cons_zero, List.set_cons_succ]
      refine wpAnyH_ready (rs := [2]) (by kernel_rfl) (by simp) ?_
      refine AllReadyH.cons (o := ⟨some 61, _, _, _, _, none⟩) rfl (fun K hK => ?_) AllReadyH.nil
      go_simp
      go_wp2_with (go_at_call 18; refine Calls.mono (GVC.out U IU.out) ?_; rintro e v1 ⟨pq, L, cq, rfl, hL, hW, hl, hb⟩)
      have IV1 : Hid (Iv (fun j => j < w1.heap.size) w4 (RU F0 m) b (6000 + 20 * k) v1) := IU.out.below hb
      have HL : Hid (Lst v1 (.slice pq L.length cq) L ∧ (∀ x, x ∈ L → (Lit.int .i64 x).wf = true) ∧ L.length ≤ 1048576) := ⟨hL, hW, hl⟩
      clear hb hHeld IU hL hW hl
      refine hK.out _ _ (ACT.out _ IV1.out) (fun hHeld => ?_)
      clear hK K
      try simp only [Act.put, List.setIfInBounds_toArray, List.set_cons_zero, List.set_cons_succ]
      refine wpAnyH_ready (rs := [7]) (by kernel_rfl) (by simp) ?_
      refine AllReadyH.cons (o := ⟨some 66, _, _, _, _, none⟩) rfl (fun K hK => ?_) AllReadyH.nil
      go_simp
      go_wp2_with (go_at_call 17; refine Calls.mono (WHC.out v1 pq L cq HL.out) ?_; rintro e v2 ⟨⟨x, rfl, hx⟩, hb⟩)
      have IV2 : Hid (Iv (fun j => j < w1.heap.size) w4 (RU F0 m) b (6000 + 20 * k) v2) := IV1.out.below hb
      have HX : Hid ((Lit.int .i64 x).wf = true) := hx
      clear hb hHeld IV1 HL hx
      refine hK.out _ _ (ACT.out _ IV2.out) (fun hHeld => ?_)
      clear hK K
      try simp only [Act.put, List.setIfInBounds_toArray, List.set_cons_zero, List.set_cons_succ]
      refine wpAnyH_ready (rs := [8]) (by kernel_rfl) (by simp) ?_
      refine AllReadyH.cons (o := ⟨some 67, _, _, _, _, none⟩) rfl (fun K hK => ?_) AllReadyH.nil
      go_simp
      go_wp2_with (go_at_call 19; refine Calls.mono (GIC.out v2 x HX.out IV2.out) ?_; rintro e v3 ⟨⟨cc, rfl⟩, hI3⟩)
      have IV3 : Hid (Iv (fun j => j < w1.heap.size) w4 (RU F0 m) b (6000 + 20 * (k + 1)) v3) := hI3
      clear hHeld IV2 HX hI3
      refine hK.out _ _ (ACT2.out _ IV3.out) (fun hHeld => ?_)
      clear hK K hHeld
      try simp only [Act.put, List.setIfInBounds_toArray, List.set_cons_zero, List.set_cons_succ]
      refine wpAnyH_done (by kernel_rfl) ?_ _
      refine NoPanic.normal ?_
      go_wp2_with fail
      go_roundw
      case rel => exact ⟨k + 1, by omega, by omega, by go_num, IV3⟩
      case measure => simp [Go.RowKit.intOf]; omega
    obtain ⟨F, G, hB, hS, kf⟩ := hI.out
    obtain ⟨N, hN⟩ : ∃ N, N = 6000 + 20 * k := ⟨_, rfl⟩
    rw [← hN] at hB
    have N9 : N ≤ 20000 := by omega
    obtain ⟨w5, mk, hSn, b5, z5⟩ := sn_make 6000 (by omega) wr
    obtain ⟨sb, hsb⟩ : ∃ sb, sb = wr.heap.size := ⟨_, rfl⟩
    rw [← hsb] at mk hSn
    have bw := W1N.out wr kf
    have K0 : Hid (Bu (fun j => j < w1.heap.size ∨ j = sb) w5 b N F G ∧ Sn w5 sb 6000 (Uk F 0) ∧ 0 = cnt (Uk F 0) 1048576 ∧ Below w1.heap.size w1 w5) := by
      have hB5 := hB.next b5.size (fun j hj _ => b5.block j hj)
      refine ⟨hB5.less (fun j hj => ?_), hSn.congr (fun i => ⟨fun h => False.elim h, fun ⟨o, h, _⟩ => absurd h (Nat.not_lt_zero _)⟩), (Uk_zero F _).symm, bw.trans (b5.mono bw.size)⟩
      rcases hj with h | h
      · exact Or.inl h
      · right; omega
    have LS : Hid (w1.heap.size ≤ sb) := by show _ ≤ _; rw [hsb]; exact bw.size
    have HS : Hid (St (RU F0 m) F G) := hS
    have HSA : Hid (∀ x, F x → (RU F0 m) x) := hS.sub
    have mk' : Sem.run Try.prog (Instr.makeSlice 32 (.int .i64 6000) (.int .i64 6000)) wr = .ok (.slice (some ⟨sb, 0, none⟩) 6000 6000) w5 := mk
    have MC : Hid (∀ (W : World) (S : Nat → Prop) (nn kk q : Nat), kk ≤ 10 → (Bu (fun j => j < w1.heap.size ∨ j = sb) W b N F G ∧ Sn W sb 6000 S ∧ nn = cnt S 1048576 ∧ Below w1.heap.size w1 W) → (∀ x, x / 2 ^ kk = q → ¬ S x ∧ (RU F0 m) x) → Calls Try.prog 28 #[.slice (some ⟨sb, 0, none⟩) 6000 6000, .slice (some ⟨g, 0, none⟩) m cap, .int .i64 (q * 2 ^ kk : Nat), .int .i64 (2 ^ kk : Nat)] W fun e w' => e = .returned (.bool true) ∧ (Bu (fun j => j < w1.heap.size ∨ j = sb) w' b N F G ∧ Sn w' sb 6000 (fun x => S x ∨ x / 2 ^ kk = q) ∧ (nn + 2 ^ kk) = cnt (fun x => S x ∨ x / 2 ^ kk = q) 1048576 ∧ Below w1.heap.size w1 w') ∧ Kf (fun j => j = sb) W w') := fun W S nn kk q hkk hJ hx => by
      have pp := p2pos kk
      have all : ∀ i, q * 2 ^ kk ≤ i → i < q * 2 ^ kk + 2 ^ kk → ¬ S i ∧ (RU F0 m) i := fun i h1 h2 => hx i ((in_blk kk q i).2 ⟨h1, h2⟩)
      have top : q * 2 ^ kk + 2 ^ kk ≤ 6000 := by
        have l := LF.out _ (all (q * 2 ^ kk + (2 ^ kk - 1)) (Nat.le_add_right _ _) (by generalize 2 ^ kk = Q at *; generalize q * Q = X at *; omega)).2
        generalize 2 ^ kk = Q at *
        generalize q * Q = X at *
        omega
      obtain ⟨hB6, hS6, hc6, hb6⟩ := hJ
      refine (mark_any g m cap sb 6000 6000 (q * 2 ^ kk) (2 ^ kk) F0 (by omega) (Nat.le_trans (pow_small hkk) (by decide)) top (by omega) S W (HR.out.below hb6) hS6 (by have := LS.out; have := HR.out.1; omega) all).mono ?_
      rintro e w' ⟨he, hS7, kf7⟩
      refine ⟨he, ⟨(hB6.next kf7.size (fun j hj nz => kf7.block j hj (fun e => nz (Or.inr e)))).less (fun j h => Or.inl h), hS7.congr (fun i => ?_), ?_, hb6.trans ⟨kf7.os, kf7.tape, kf7.output, kf7.size, fun j hj => kf7.block j (Nat.lt_of_lt_of_le hj hb6.size) (fun e => by have := LS.out; omega)⟩⟩, kf7⟩
      · rw [in_blk]
      · rw [cnt_or S (fun x => x / 2 ^ kk = q) (fun x h1 h2 => (hx x h2).1 h1), cnt_blk (Nat.le_trans top (by decide)), hc6]
    clear hI hB hS kf hN hSn b5 z5 mk hsb bw
    by_cases cn : k < n1
    · obtain rfl : k = 40 := by omega
      have hd : decide ((40 : Int) < (n1 : Int)) = true := by simp; omega
      have hd2 : decide (((40 : Nat) : Int) < (n1 : Int)) = true := by simp; omega
      clear hlt
      rw [show ((40 : Nat) : Int) = (40 : Int) from rfl]
      go_wp2_with fail
      as_aux_lemma =>
        go_loopw [9, 10, 12] (fun vn vk _ W => ∃ kk nn : Nat, kk ≤ 11 ∧ vk = .int .i64 kk ∧ vn = .int .i64 nn ∧ Hid (Bu (fun j => j < w1.heap.size ∨ j = sb) W b N F G ∧ Sn W sb 6000 (Uk F kk) ∧ nn = cnt (Uk F kk) 1048576 ∧ Below w1.heap.size w1 W)) (fun _ vk _ _ => 11 - (Go.RowKit.intOf vk).toNat)
        case atStart => exact ⟨0, 0, by omega, rfl, rfl, K0⟩
        case round =>
          clear K0 mk'
          obtain ⟨kk, nn, hkk, rfl, rfl, hJ⟩ := hrel
          by_cases ck : kk ≤ 10
          · have d1 : decide ((kk : Int) ≤ 10) = true := by simp; omega
            have BC : Hid (Calls Try.prog 27 #[.pointer (some ⟨b, 0, none⟩), .int .i64 kk] wr fun e w' => ∃ (p : Option Addr) (L : List Int) (cc : Nat), e = .returned (.slice p L.length cc) ∧ Lsl w' (sb + 1) (.slice p L.length cc) L ∧ L.length ≤ 1048576 ∧ Asc L ∧ (∀ x, x ∈ L ↔ can F kk x) ∧ (Bu (fun j => j < w1.heap.size ∨ j = sb) w' b N F G ∧ Sn w' sb 6000 (Uk F kk) ∧ nn = cnt (Uk F kk) 1048576 ∧ Below w1.heap.size w1 w')) := by
              refine (hJ.out.1.blocks (by omega) kk (by omega)).mono ?_
              rintro e w' ⟨v, L, he, hA, hM, hO, hb⟩
              have ls := hJ.out.2.1.lt
              obtain ⟨p, cc, hv, r⟩ := lsl_row hO (lo := sb + 1) (by omega)
              refine ⟨p, L, cc, by rw [he, hv], ⟨p, cc, rfl, r⟩, blocks_len hJ.out.1.1 hA hM, hA, hM, hJ.out.1.below hb, hJ.out.2.1.block (hb.block sb ls), hJ.out.2.2.1, hJ.out.2.2.2.trans (hb.mono hJ.out.2.2.2.size)⟩
            clear hJ
            go_wp2_with fail
            refine Calls.mono BC.out ?_
            rintro e u1 ⟨p, L, cc, rfl, hL, l9, aL, mL, hJ1⟩
            obtain ⟨ll, hll⟩ : ∃ ll, ll = L.length := ⟨_, rfl⟩
            have HLL : Hid (ll = L.length) := hll
            have HAL : Hid (Asc L) := aL
            have HML : Hid (∀ x, x ∈ L ↔ can F kk x) := mL
            have J1 : Hid ((Bu (fun j => j < w1.heap.size ∨ j = sb) u1 b N F G ∧ Sn u1 sb 6000 (fun x => Uk F kk x ∨ inL kk (L.take 0) x) ∧ nn = cnt (fun x => Uk F kk x ∨ inL kk (L.take 0) x) 1048576 ∧ Below w1.heap.size w1 u1) ∧ Lsl u1 (sb + 1) (.slice p ll cc) L) := by
              have e0 : (fun x => Uk F kk x ∨ inL kk (L.take 0) x) = Uk F kk := by
                funext x; apply propext
                exact ⟨fun h => h.elim id (fun ⟨a, ha, _⟩ => by simp at ha), Or.inl⟩
              rw [e0, hll]
              exact ⟨hJ1, hL⟩
            rw [← hll] at l9 ⊢
            clear hL aL mL hJ1 BC hll
            go_wp2_with fail
            go_loopw [9, 12, 77] (fun vn _ vi W => ∃ i nn : Nat, i ≤ ll ∧ vi = .int .i64 i ∧ vn = .int .i64 nn ∧ Hid ((Bu (fun j => j < w1.heap.size ∨ j = sb) W b N F G ∧ Sn W sb 6000 (fun x => Uk F kk x ∨ inL kk (L.take i) x) ∧ nn = cnt (fun x => Uk F kk x ∨ inL kk (L.take i) x) 1048576 ∧ Below w1.heap.size w1 W) ∧ Lsl W (sb + 1) (.slice p ll cc) L)) (fun _ _ vi _ => ll - (Go.RowKit.intOf vi).toNat)
            case atStart => exact ⟨0, nn, by omega, rfl, rfl, J1⟩
            case round =>
              clear J1
              obtain ⟨i, nn, hi, rfl, rfl, hJ⟩ := hrel
              by_cases ci : i < ll
              rotate_left
              · obtain rfl : i = ll := by omega
                have d2 : decide ((i : Int) < (i : Int)) = false := by simp
                have J2 : Hid (Bu (fun j => j < w1.heap.size ∨ j = sb) wr b N F G ∧ Sn wr sb 6000 (Uk F (kk + 1)) ∧ nn = cnt (Uk F (kk + 1)) 1048576 ∧ Below w1.heap.size w1 wr) := by
                  have e1 : (fun x => Uk F kk x ∨ inL kk (L.take i) x) = Uk F (kk + 1) := by
                    rw [HLL.out, List.take_length]
                    exact uk_inl ck HML.out
                  have := hJ.out.1
                  rw [e1] at this
                  exact this
                clear hJ ci
                go_wp2_with fail
                go_roundw
                case rel => exact ⟨kk + 1, nn, by omega, by go_num, rfl, J2⟩
                case measure => simp [Go.RowKit.intOf]; omega
              have d2 : decide ((i : Int) < (ll : Int)) = true := by simp; omega
              have d3 : decide ((i : Int) < 0) = false := by simp
              have iL : i < L.length := by have := HLL.out; omega
              obtain ⟨pw, cw, ew, rd⟩ := hJ.out.2
              obtain ⟨gq, e1, lo, lgq, cx⟩ := rd i iL
              have e3 := (Value.slice.inj ew).1
              clear ew
              subst e3
              subst e1
              obtain ⟨_, q, hq, cq⟩ := (HML.out L[i]).1 (List.getElem_mem iL)
              obtain ⟨mm2, hmm, m1, m2, wA, wB⟩ := pw_facts ck
              obtain ⟨a, ha⟩ : ∃ a : Nat, a = q * 2 ^ kk := ⟨_, rfl⟩
              have cx' : wr.cell? ⟨gq, i, none⟩ = some (.int .i64 (a : Int)) := by rw [cx, hq, ha]
              have MC2 : Hid (Calls Try.prog 28 #[.slice (some ⟨sb, 0, none⟩) 6000 6000, .slice (some ⟨g, 0, none⟩) m cap, .int .i64 a, .int .i64 mm2] wr fun e w' => e = .returned (.bool true) ∧ (Bu (fun j => j < w1.heap.size ∨ j = sb) w' b N F G ∧ Sn w' sb 6000 (fun x => Uk F kk x ∨ inL kk (L.take (i + 1)) x) ∧ (nn + mm2) = cnt (fun x => Uk F kk x ∨ inL kk (L.take (i + 1)) x) 1048576 ∧ Below w1.heap.size w1 w') ∧ Lsl w' (sb + 1) (.slice (some ⟨gq, 0, none⟩) ll cc) L) := by
                rw [ha, hmm]
                refine (MC.out wr (fun x => Uk F kk x ∨ inL kk (L.take i) x) nn kk q ck hJ.out.1 (fun x hx => ?_)).mono ?_
                rotate_left
                · rintro e w' ⟨he, h, kf⟩
                  have e2 : (fun x => (Uk F kk x ∨ inL kk (L.take i) x) ∨ x / 2 ^ kk = q) = (fun x => Uk F kk x ∨ inL kk (L.take (i + 1)) x) := by
                    funext x; apply propext
                    rw [inl_take iL hq]
                    exact or_assoc
                  rw [e2] at h
                  exact ⟨he, h, hJ.out.2.keep kf (by omega)⟩
                · refine ⟨fun h => ?_, HSA.out x (cq.1 x hx)⟩
                  rcases h with ⟨o2, h1, h2, q2, c2, e2⟩ | ⟨y, hy, q2, hq2, e2⟩
                  · have := cn_dj c2 cq h2 ck e2 hx
                    omega
                  · have e3 : q2 = q := e2.symm.trans hx
                    subst e3
                    rw [← hq] at hq2
                    rw [hq2] at hy
                    exact take_nd (asc_nd HAL.out) iL hy
              have tm : (a : Int).tmod (mm2 : Int) = 0 := by
                rw [← Int.ofNat_tmod, ha, hmm, Nat.mul_mod_left]; rfl
              have nb : nn ≤ 1048576 := by rw [hJ.out.1.2.2.1]; exact cnt_le _ _
              have z1 : ((mm2 : Int) == 0) = false := by simp; omega
              have z2 : ¬ (mm2 : Int) = 0 := by omega
              clear hJ rd cx hq cq hmm ha iL
              go_wp2_with fail
              refine Calls.mono MC2.out ?_
              rintro e u2 ⟨rfl, hJ2⟩
              have J3 : Hid ((Bu (fun j => j < w1.heap.size ∨ j = sb) u2 b N F G ∧ Sn u2 sb 6000 (fun x => Uk F kk x ∨ inL kk (L.take (i + 1)) x) ∧ (nn + mm2) = cnt (fun x => Uk F kk x ∨ inL kk (L.take (i + 1)) x) 1048576 ∧ Below w1.heap.size w1 u2) ∧ Lsl u2 (sb + 1) (.slice (some ⟨gq, 0, none⟩) ll cc) L) := hJ2
              clear hJ2 MC2
              go_wp2_with fail
              go_roundw
              case rel => exact ⟨i + 1, nn + mm2, by omega, by go_num, by go_num, J3⟩
              case measure => simp [Go.RowKit.intOf]; omega
          obtain rfl : kk = 11 := by omega
          rw [show ((11 : Nat) : Int) = (11 : Int) from rfl]
          have J4 : Hid (Bu (fun j => j < w1.heap.size ∨ j = sb) wr b N F G ∧ Sn wr sb 6000 F ∧ nn = cnt F 1048576 ∧ Below w1.heap.size w1 wr) := by
            have := hJ.out
            rw [Uk_all] at this
            exact this
          have FC : Hid (Calls Try.prog 21 #[.pointer (some ⟨b, 0, none⟩)] wr fun e w' => e = .returned (.int .i64 nn) ∧ w' = wr) := by
            have r := J4.out.1.free
            rw [← J4.out.2.2.1] at r
            exact r
          have GC : Hid (Calls Try.prog 18 #[.pointer (some ⟨b, 0, none⟩)] wr fun e w' => ∃ (p : Option Addr) (L : List Int) (cc : Nat), e = .returned (.slice p L.length cc) ∧ Lsl w' (sb + 1) (.slice p L.length cc) L ∧ L.length ≤ 1048576 ∧ Asc L ∧ (∀ x, x ∈ L ↔ (G x).isSome = true) ∧ (Bu (fun j => j < w1.heap.size ∨ j = sb) w' b N F G ∧ Sn w' sb 6000 F ∧ nn = cnt F 1048576 ∧ Below w1.heap.size w1 w')) := by
            refine (J4.out.1.given (by omega)).mono ?_
            rintro e w' ⟨v, L, he, hA, hM, hO, hb⟩
            have ls := J4.out.2.1.lt
            obtain ⟨p, cc, hv, r⟩ := lsl_row hO (lo := sb + 1) (by omega)
            refine ⟨p, L, cc, by rw [he, hv], ⟨p, cc, rfl, r⟩, ?_, hA, hM, J4.out.1.below hb, J4.out.2.1.block (hb.block sb ls), J4.out.2.2.1, J4.out.2.2.2.trans (hb.mono J4.out.2.2.2.size)⟩
            rw [gcnt_len HS.out hA hM]
            have := gcnt_bound HS.out LF.out
            omega
          have ex : ((nn : Int) != (nn : Int)) = false := by simp
          clear hJ ck J4
          go_wp2_with fail
          refine Calls.mono FC.out ?_
          rintro e u0 ⟨rfl, rfl⟩
          clear FC
          go_wp2_with fail
          refine Calls.mono GC.out ?_
          rintro e u1 ⟨p, L, cc, rfl, hL, l9, aL, mL, hJ1⟩
          obtain ⟨ll, hll⟩ : ∃ ll, ll = L.length := ⟨_, rfl⟩
          have HLL : Hid (ll = L.length) := hll
          have HAL : Hid (Asc L) := aL
          have HML : Hid (∀ x, x ∈ L ↔ (G x).isSome = true) := mL
          have J1 : Hid ((Bu (fun j => j < w1.heap.size ∨ j = sb) u1 b N F G ∧ Sn u1 sb 6000 (fun x => F x ∨ gL G (L.take 0) x) ∧ nn = cnt (fun x => F x ∨ gL G (L.take 0) x) 1048576 ∧ Below w1.heap.size w1 u1) ∧ Lsl u1 (sb + 1) (.slice p ll cc) L) := by
            have e0 : (fun x => F x ∨ gL G (L.take 0) x) = F := by
              funext x; apply propext
              exact ⟨fun h => h.elim id (fun ⟨a, ha, _⟩ => by simp at ha), Or.inl⟩
            rw [e0, hll]
            exact ⟨hJ1, hL⟩
          rw [← hll] at l9 ⊢
          clear hL aL mL hJ1 GC hll
          go_wp2_with fail
          go_loopw [9, 14, 15, 107] (fun vn _ _ vi W => ∃ i nn : Nat, i ≤ ll ∧ vi = .int .i64 i ∧ vn = .int .i64 nn ∧ Hid ((Bu (fun j => j < w1.heap.size ∨ j = sb) W b N F G ∧ Sn W sb 6000 (fun x => F x ∨ gL G (L.take i) x) ∧ nn = cnt (fun x => F x ∨ gL G (L.take i) x) 1048576 ∧ Below w1.heap.size w1 W) ∧ Lsl W (sb + 1) (.slice p ll cc) L)) (fun _ _ _ vi _ => ll - (Go.RowKit.intOf vi).toNat)
          case atStart => exact ⟨0, nn, by omega, rfl, rfl, J1⟩
          case round =>
            clear J1
            obtain ⟨i, nn, hi, rfl, rfl, hJ⟩ := hrel
            by_cases ci : i < ll
            · have d2 : decide ((i : Int) < (ll : Int)) = true := by simp; omega
              have d3 : decide ((i : Int) < 0) = false := by simp
              have iL : i < L.length := by have := HLL.out; omega
              obtain ⟨pw, cw, ew, rd⟩ := hJ.out.2
              obtain ⟨gq, e1, lo, lgq, cx⟩ := rd i iL
              have e3 := (Value.slice.inj ew).1
              clear ew
              subst e3
              subst e1
              obtain ⟨v, hv⟩ := Option.isSome_iff_exists.1 ((HML.out L[i]).1 (List.getElem_mem iL))
              obtain ⟨kk, q, ck, hv2, hq, hblk⟩ := HS.out.giv _ v hv
              subst hv2
              have hgq : G ((q * 2 ^ kk : Nat) : Int) = some (kk : Int) := by rw [← hq]; exact hv
              obtain ⟨mm2, hmm, m1, m2, wA, wB⟩ := pw_facts ck
              obtain ⟨a, ha⟩ : ∃ a : Nat, a = q * 2 ^ kk := ⟨_, rfl⟩
              have cx' : wr.cell? ⟨gq, i, none⟩ = some (.int .i64 (a : Int)) := by rw [cx, hq, ha]
              have OC : Hid (Calls Try.prog 23 #[.pointer (some ⟨b, 0, none⟩), .int .i64 a] wr fun e w' => e = .returned (.int .i64 kk) ∧ w' = wr) := by
                have wb := HS.out.wf (x := (a : Int)) (by rw [ha, hgq]; rfl)
                have r := hJ.out.1.1.order (x := (a : Int)) (wf64 (by omega) (by omega))
                rw [ha, hgq] at r
                rw [ha]
                exact r
              have MC2 : Hid (Calls Try.prog 28 #[.slice (some ⟨sb, 0, none⟩) 6000 6000, .slice (some ⟨g, 0, none⟩) m cap, .int .i64 a, .int .i64 mm2] wr fun e w' => e = .returned (.bool true) ∧ (Bu (fun j => j < w1.heap.size ∨ j = sb) w' b N F G ∧ Sn w' sb 6000 (fun x => F x ∨ gL G (L.take (i + 1)) x) ∧ (nn + mm2) = cnt (fun x => F x ∨ gL G (L.take (i + 1)) x) 1048576 ∧ Below w1.heap.size w1 w') ∧ Lsl w' (sb + 1) (.slice (some ⟨gq, 0, none⟩) ll cc) L) := by
                rw [ha, hmm]
                refine (MC.out wr (fun x => F x ∨ gL G (L.take i) x) nn kk q ck hJ.out.1 (fun x hx => ?_)).mono ?_
                rotate_left
                · rintro e w' ⟨he, h, kf⟩
                  have e2 : (fun x => (F x ∨ gL G (L.take i) x) ∨ x / 2 ^ kk = q) = (fun x => F x ∨ gL G (L.take (i + 1)) x) := by
                    funext x; apply propext
                    rw [gl_take iL hq hgq]
                    exact or_assoc
                  rw [e2] at h
                  exact ⟨he, h, hJ.out.2.keep kf (by omega)⟩
                · refine ⟨fun h => ?_, (hblk x hx).1⟩
                  rcases h with h | ⟨y, hy, k2, q2, l2, hq2, hg2, e2⟩
                  · exact (hblk x hx).2 h
                  · rw [hq2] at hg2
                    obtain ⟨r1, r2⟩ := HS.out.dj k2 q2 kk q x l2 ck hg2 hgq e2 hx
                    subst r1; subst r2
                    rw [← hq] at hq2
                    rw [hq2] at hy
                    exact take_nd (asc_nd HAL.out) iL hy
              have tm : (a : Int).tmod (mm2 : Int) = 0 := by
                rw [← Int.ofNat_tmod, ha, hmm, Nat.mul_mod_left]; rfl
              have nb : nn ≤ 1048576 := by rw [hJ.out.1.2.2.1]; exact cnt_le _ _
              have z1 : ((mm2 : Int) == 0) = false := by simp; omega
              have z2 : ¬ (mm2 : Int) = 0 := by omega
              have k0 : decide ((kk : Int) < 0) = false := by simp
              have k1 : decide ((10 : Int) < (kk : Int)) = false := by simp; omega
              clear hJ rd cx hq hgq hblk hv hmm ha iL
              go_wp2_with fail
              refine Calls.mono OC.out ?_
              rintro e u0 ⟨rfl, rfl⟩
              clear OC
              go_wp2_with fail
              refine Calls.mono MC2.out ?_
              rintro e u2 ⟨rfl, hJ2⟩
              have J3 : Hid ((Bu (fun j => j < w1.heap.size ∨ j = sb) u2 b N F G ∧ Sn u2 sb 6000 (fun x => F x ∨ gL G (L.take (i + 1)) x) ∧ (nn + mm2) = cnt (fun x => F x ∨ gL G (L.take (i + 1)) x) 1048576 ∧ Below w1.heap.size w1 u2) ∧ Lsl u2 (sb + 1) (.slice (some ⟨gq, 0, none⟩) ll cc) L) := hJ2
              clear hJ2 MC2
              go_wp2_with fail
              go_roundw
              case rel => exact ⟨i + 1, nn + mm2, by omega, by go_num, by go_num, J3⟩
              case measure => simp [Go.RowKit.intOf]; omega
            obtain rfl : i = ll := by omega
            have d2 : decide ((i : Int) < (i : Int)) = false := by simp
            have e5 : nn = cnt (RU F0 m) 1048576 := by
              have e1 : (fun x => F x ∨ gL G (L.take i) x) = (RU F0 m) := by
                rw [HLL.out, List.take_length]
                exact gl_all HS.out HML.out
              have := hJ.out.1.2.2.1
              rw [e1] at this
              exact this
            have NE : Hid (nn = cnt (RU F0 m) 1048576) := e5
            have nb : nn ≤ 1048576 := by rw [e5]; exact cnt_le _ _
            have BW : Hid (Below w1.heap.size w1 wr) := hJ.out.1.2.2.2
            clear hJ ci e5
            go_wp2_with fail
            go_loopw [16, 18, 143] (fun va _ vi W => ∃ j aa : Nat, j ≤ m ∧ vi = .int .i64 j ∧ va = .int .i64 aa ∧ Hid (aa = cnt (RU F0 j) 1048576 ∧ Below w1.heap.size w1 W)) (fun _ _ vi _ => m - (Go.RowKit.intOf vi).toNat)
            case atStart => exact ⟨0, 0, by omega, rfl, rfl, ⟨by rw [ru_none, cnt_none], BW.out⟩⟩
            case round =>
              clear BW
              obtain ⟨j, aa, hj, rfl, rfl, hJ⟩ := hrel
              by_cases cj : j < m
              · have d4 : decide ((j : Int) < (m : Int)) = true := by simp; omega
                have d5 : decide ((j : Int) < 0) = false := by simp
                have RR := HR.out.below hJ.out.2
                obtain ⟨q1, q2⟩ := RR.2 j cj
                have lg := RR.1
                have fo := FO.out j cj
                have ep := end_pos FO.out j hj
                obtain ⟨f, hf⟩ : ∃ f : Nat, (F0 j).1 = (f : Int) := ⟨(F0 j).1.toNat, by omega⟩
                obtain ⟨t, ht⟩ : ∃ t : Nat, (F0 j).2 = (t : Int) := ⟨(F0 j).2.toNat, by omega⟩
                have NX : Hid (aa + (t - f) = cnt (RU F0 (j + 1)) 1048576) := by
                  show aa + (t - f) = _
                  rw [← ru_seg hf ht]
                  unfold seg
                  rw [cnt_or _ _ (fun x h1 h2 => by have := ru_lt FO.out hj h1; omega), cnt_seg f t (by omega), hJ.out.1]
                  omega
                have ab : aa ≤ 1048576 := by rw [hJ.out.1]; exact cnt_le _ _
                have ft : f < t := by omega
                have t9 : t ≤ 1048576 := by omega
                rw [hf] at q1
                rw [ht] at q2
                have HW : Hid (Below w1.heap.size w1 wr) := hJ.out.2
                clear RR fo ep hf ht hJ
                go_wp2_with fail
                go_roundw
                case rel => exact ⟨j + 1, aa + (t - f), by omega, by go_num, by congr 1; omega, ⟨NX.out, HW.out.alloc HW.out.size _⟩⟩
                case measure => simp [Go.RowKit.intOf]; omega
              obtain rfl : j = m := by omega
              have d4 : decide ((j : Int) < (j : Int)) = false := by simp
              obtain rfl : nn = aa := NE.out.trans hJ.out.1.symm
              have HW : Hid (Below w.heap.size w wr) := B1.out.trans (hJ.out.2.mono B1.out.size)
              clear hJ cj
              go_wp2_with fail
              refine Calls.mono (AWH.out _) ?_
              rintro e u3 ⟨rfl, hb⟩
              have HU : Hid (Below w.heap.size w u3) := HW.out.trans (hb.mono HW.out.size)
              clear hb
              go_wp2_with fail
              go_ret
              exact ⟨rfl, HU.out⟩

    · obtain rfl : k = n1 := by omega
      have hd : decide ((k : Int) < (k : Int)) = false := by simp
      clear hlt
      go_wp2_with fail
      as_aux_lemma =>
        go_loopw [9, 10, 12] (fun vn vk _ W => ∃ kk nn : Nat, kk ≤ 11 ∧ vk = .int .i64 kk ∧ vn = .int .i64 nn ∧ Hid (Bu (fun j => j < w1.heap.size ∨ j = sb) W b N F G ∧ Sn W sb 6000 (Uk F kk) ∧ nn = cnt (Uk F kk) 1048576 ∧ Below w1.heap.size w1 W)) (fun _ vk _ _ => 11 - (Go.RowKit.intOf vk).toNat)
        case atStart => exact ⟨0, 0, by omega, rfl, rfl, K0⟩
        case round =>
          clear K0 mk'
          obtain ⟨kk, nn, hkk, rfl, rfl, hJ⟩ := hrel
          by_cases ck : kk ≤ 10
          · have d1 : decide ((kk : Int) ≤ 10) = true := by simp; omega
            have BC : Hid (Calls Try.prog 27 #[.pointer (some ⟨b, 0, none⟩), .int .i64 kk] wr fun e w' => ∃ (p : Option Addr) (L : List Int) (cc : Nat), e = .returned (.slice p L.length cc) ∧ Lsl w' (sb + 1) (.slice p L.length cc) L ∧ L.length ≤ 1048576 ∧ Asc L ∧ (∀ x, x ∈ L ↔ can F kk x) ∧ (Bu (fun j => j < w1.heap.size ∨ j = sb) w' b N F G ∧ Sn w' sb 6000 (Uk F kk) ∧ nn = cnt (Uk F kk) 1048576 ∧ Below w1.heap.size w1 w')) := by
              refine (hJ.out.1.blocks (by omega) kk (by omega)).mono ?_
              rintro e w' ⟨v, L, he, hA, hM, hO, hb⟩
              have ls := hJ.out.2.1.lt
              obtain ⟨p, cc, hv, r⟩ := lsl_row hO (lo := sb + 1) (by omega)
              refine ⟨p, L, cc, by rw [he, hv], ⟨p, cc, rfl, r⟩, blocks_len hJ.out.1.1 hA hM, hA, hM, hJ.out.1.below hb, hJ.out.2.1.block (hb.block sb ls), hJ.out.2.2.1, hJ.out.2.2.2.trans (hb.mono hJ.out.2.2.2.size)⟩
            clear hJ
            go_wp2_with fail
            refine Calls.mono BC.out ?_
            rintro e u1 ⟨p, L, cc, rfl, hL, l9, aL, mL, hJ1⟩
            obtain ⟨ll, hll⟩ : ∃ ll, ll = L.length := ⟨_, rfl⟩
            have HLL : Hid (ll = L.length) := hll
            have HAL : Hid (Asc L) := aL
            have HML : Hid (∀ x, x ∈ L ↔ can F kk x) := mL
            have J1 : Hid ((Bu (fun j => j < w1.heap.size ∨ j = sb) u1 b N F G ∧ Sn u1 sb 6000 (fun x => Uk F kk x ∨ inL kk (L.take 0) x) ∧ nn = cnt (fun x => Uk F kk x ∨ inL kk (L.take 0) x) 1048576 ∧ Below w1.heap.size w1 u1) ∧ Lsl u1 (sb + 1) (.slice p ll cc) L) := by
              have e0 : (fun x => Uk F kk x ∨ inL kk (L.take 0) x) = Uk F kk := by
                funext x; apply propext
                exact ⟨fun h => h.elim id (fun ⟨a, ha, _⟩ => by simp at ha), Or.inl⟩
              rw [e0, hll]
              exact ⟨hJ1, hL⟩
            rw [← hll] at l9 ⊢
            clear hL aL mL hJ1 BC hll
            go_wp2_with fail
            go_loopw [9, 12, 77] (fun vn _ vi W => ∃ i nn : Nat, i ≤ ll ∧ vi = .int .i64 i ∧ vn = .int .i64 nn ∧ Hid ((Bu (fun j => j < w1.heap.size ∨ j = sb) W b N F G ∧ Sn W sb 6000 (fun x => Uk F kk x ∨ inL kk (L.take i) x) ∧ nn = cnt (fun x => Uk F kk x ∨ inL kk (L.take i) x) 1048576 ∧ Below w1.heap.size w1 W) ∧ Lsl W (sb + 1) (.slice p ll cc) L)) (fun _ _ vi _ => ll - (Go.RowKit.intOf vi).toNat)
            case atStart => exact ⟨0, nn, by omega, rfl, rfl, J1⟩
            case round =>
              clear J1
              obtain ⟨i, nn, hi, rfl, rfl, hJ⟩ := hrel
              by_cases ci : i < ll
              rotate_left
              · obtain rfl : i = ll := by omega
                have d2 : decide ((i : Int) < (i : Int)) = false := by simp
                have J2 : Hid (Bu (fun j => j < w1.heap.size ∨ j = sb) wr b N F G ∧ Sn wr sb 6000 (Uk F (kk + 1)) ∧ nn = cnt (Uk F (kk + 1)) 1048576 ∧ Below w1.heap.size w1 wr) := by
                  have e1 : (fun x => Uk F kk x ∨ inL kk (L.take i) x) = Uk F (kk + 1) := by
                    rw [HLL.out, List.take_length]
                    exact uk_inl ck HML.out
                  have := hJ.out.1
                  rw [e1] at this
                  exact this
                clear hJ ci
                go_wp2_with fail
                go_roundw
                case rel => exact ⟨kk + 1, nn, by omega, by go_num, rfl, J2⟩
                case measure => simp [Go.RowKit.intOf]; omega
              have d2 : decide ((i : Int) < (ll : Int)) = true := by simp; omega
              have d3 : decide ((i : Int) < 0) = false := by simp
              have iL : i < L.length := by have := HLL.out; omega
              obtain ⟨pw, cw, ew, rd⟩ := hJ.out.2
              obtain ⟨gq, e1, lo, lgq, cx⟩ := rd i iL
              have e3 := (Value.slice.inj ew).1
              clear ew
              subst e3
              subst e1
              obtain ⟨_, q, hq, cq⟩ := (HML.out L[i]).1 (List.getElem_mem iL)
              obtain ⟨mm2, hmm, m1, m2, wA, wB⟩ := pw_facts ck
              obtain ⟨a, ha⟩ : ∃ a : Nat, a = q * 2 ^ kk := ⟨_, rfl⟩
              have cx' : wr.cell? ⟨gq, i, none⟩ = some (.int .i64 (a : Int)) := by rw [cx, hq, ha]
              have MC2 : Hid (Calls Try.prog 28 #[.slice (some ⟨sb, 0, none⟩) 6000 6000, .slice (some ⟨g, 0, none⟩) m cap, .int .i64 a, .int .i64 mm2] wr fun e w' => e = .returned (.bool true) ∧ (Bu (fun j => j < w1.heap.size ∨ j = sb) w' b N F G ∧ Sn w' sb 6000 (fun x => Uk F kk x ∨ inL kk (L.take (i + 1)) x) ∧ (nn + mm2) = cnt (fun x => Uk F kk x ∨ inL kk (L.take (i + 1)) x) 1048576 ∧ Below w1.heap.size w1 w') ∧ Lsl w' (sb + 1) (.slice (some ⟨gq, 0, none⟩) ll cc) L) := by
                rw [ha, hmm]
                refine (MC.out wr (fun x => Uk F kk x ∨ inL kk (L.take i) x) nn kk q ck hJ.out.1 (fun x hx => ?_)).mono ?_
                rotate_left
                · rintro e w' ⟨he, h, kf⟩
                  have e2 : (fun x => (Uk F kk x ∨ inL kk (L.take i) x) ∨ x / 2 ^ kk = q) = (fun x => Uk F kk x ∨ inL kk (L.take (i + 1)) x) := by
                    funext x; apply propext
                    rw [inl_take iL hq]
                    exact or_assoc
                  rw [e2] at h
                  exact ⟨he, h, hJ.out.2.keep kf (by omega)⟩
                · refine ⟨fun h => ?_, HSA.out x (cq.1 x hx)⟩
                  rcases h with ⟨o2, h1, h2, q2, c2, e2⟩ | ⟨y, hy, q2, hq2, e2⟩
                  · have := cn_dj c2 cq h2 ck e2 hx
                    omega
                  · have e3 : q2 = q := e2.symm.trans hx
                    subst e3
                    rw [← hq] at hq2
                    rw [hq2] at hy
                    exact take_nd (asc_nd HAL.out) iL hy
              have tm : (a : Int).tmod (mm2 : Int) = 0 := by
                rw [← Int.ofNat_tmod, ha, hmm, Nat.mul_mod_left]; rfl
              have nb : nn ≤ 1048576 := by rw [hJ.out.1.2.2.1]; exact cnt_le _ _
              have z1 : ((mm2 : Int) == 0) = false := by simp; omega
              have z2 : ¬ (mm2 : Int) = 0 := by omega
              clear hJ rd cx hq cq hmm ha iL
              go_wp2_with fail
              refine Calls.mono MC2.out ?_
              rintro e u2 ⟨rfl, hJ2⟩
              have J3 : Hid ((Bu (fun j => j < w1.heap.size ∨ j = sb) u2 b N F G ∧ Sn u2 sb 6000 (fun x => Uk F kk x ∨ inL kk (L.take (i + 1)) x) ∧ (nn + mm2) = cnt (fun x => Uk F kk x ∨ inL kk (L.take (i + 1)) x) 1048576 ∧ Below w1.heap.size w1 u2) ∧ Lsl u2 (sb + 1) (.slice (some ⟨gq, 0, none⟩) ll cc) L) := hJ2
              clear hJ2 MC2
              go_wp2_with fail
              go_roundw
              case rel => exact ⟨i + 1, nn + mm2, by omega, by go_num, by go_num, J3⟩
              case measure => simp [Go.RowKit.intOf]; omega
          obtain rfl : kk = 11 := by omega
          rw [show ((11 : Nat) : Int) = (11 : Int) from rfl]
          have J4 : Hid (Bu (fun j => j < w1.heap.size ∨ j = sb) wr b N F G ∧ Sn wr sb 6000 F ∧ nn = cnt F 1048576 ∧ Below w1.heap.size w1 wr) := by
            have := hJ.out
            rw [Uk_all] at this
            exact this
          have FC : Hid (Calls Try.prog 21 #[.pointer (some ⟨b, 0, none⟩)] wr fun e w' => e = .returned (.int .i64 nn) ∧ w' = wr) := by
            have r := J4.out.1.free
            rw [← J4.out.2.2.1] at r
            exact r
          have GC : Hid (Calls Try.prog 18 #[.pointer (some ⟨b, 0, none⟩)] wr fun e w' => ∃ (p : Option Addr) (L : List Int) (cc : Nat), e = .returned (.slice p L.length cc) ∧ Lsl w' (sb + 1) (.slice p L.length cc) L ∧ L.length ≤ 1048576 ∧ Asc L ∧ (∀ x, x ∈ L ↔ (G x).isSome = true) ∧ (Bu (fun j => j < w1.heap.size ∨ j = sb) w' b N F G ∧ Sn w' sb 6000 F ∧ nn = cnt F 1048576 ∧ Below w1.heap.size w1 w')) := by
            refine (J4.out.1.given (by omega)).mono ?_
            rintro e w' ⟨v, L, he, hA, hM, hO, hb⟩
            have ls := J4.out.2.1.lt
            obtain ⟨p, cc, hv, r⟩ := lsl_row hO (lo := sb + 1) (by omega)
            refine ⟨p, L, cc, by rw [he, hv], ⟨p, cc, rfl, r⟩, ?_, hA, hM, J4.out.1.below hb, J4.out.2.1.block (hb.block sb ls), J4.out.2.2.1, J4.out.2.2.2.trans (hb.mono J4.out.2.2.2.size)⟩
            rw [gcnt_len HS.out hA hM]
            have := gcnt_bound HS.out LF.out
            omega
          have ex : ((nn : Int) != (nn : Int)) = false := by simp
          clear hJ ck J4
          go_wp2_with fail
          refine Calls.mono FC.out ?_
          rintro e u0 ⟨rfl, rfl⟩
          clear FC
          go_wp2_with fail
          refine Calls.mono GC.out ?_
          rintro e u1 ⟨p, L, cc, rfl, hL, l9, aL, mL, hJ1⟩
          obtain ⟨ll, hll⟩ : ∃ ll, ll = L.length := ⟨_, rfl⟩
          have HLL : Hid (ll = L.length) := hll
          have HAL : Hid (Asc L) := aL
          have HML : Hid (∀ x, x ∈ L ↔ (G x).isSome = true) := mL
          have J1 : Hid ((Bu (fun j => j < w1.heap.size ∨ j = sb) u1 b N F G ∧ Sn u1 sb 6000 (fun x => F x ∨ gL G (L.take 0) x) ∧ nn = cnt (fun x => F x ∨ gL G (L.take 0) x) 1048576 ∧ Below w1.heap.size w1 u1) ∧ Lsl u1 (sb + 1) (.slice p ll cc) L) := by
            have e0 : (fun x => F x ∨ gL G (L.take 0) x) = F := by
              funext x; apply propext
              exact ⟨fun h => h.elim id (fun ⟨a, ha, _⟩ => by simp at ha), Or.inl⟩
            rw [e0, hll]
            exact ⟨hJ1, hL⟩
          rw [← hll] at l9 ⊢
          clear hL aL mL hJ1 GC hll
          go_wp2_with fail
          go_loopw [9, 14, 15, 107] (fun vn _ _ vi W => ∃ i nn : Nat, i ≤ ll ∧ vi = .int .i64 i ∧ vn = .int .i64 nn ∧ Hid ((Bu (fun j => j < w1.heap.size ∨ j = sb) W b N F G ∧ Sn W sb 6000 (fun x => F x ∨ gL G (L.take i) x) ∧ nn = cnt (fun x => F x ∨ gL G (L.take i) x) 1048576 ∧ Below w1.heap.size w1 W) ∧ Lsl W (sb + 1) (.slice p ll cc) L)) (fun _ _ _ vi _ => ll - (Go.RowKit.intOf vi).toNat)
          case atStart => exact ⟨0, nn, by omega, rfl, rfl, J1⟩
          case round =>
            clear J1
            obtain ⟨i, nn, hi, rfl, rfl, hJ⟩ := hrel
            by_cases ci : i < ll
            · have d2 : decide ((i : Int) < (ll : Int)) = true := by simp; omega
              have d3 : decide ((i : Int) < 0) = false := by simp
              have iL : i < L.length := by have := HLL.out; omega
              obtain ⟨pw, cw, ew, rd⟩ := hJ.out.2
              obtain ⟨gq, e1, lo, lgq, cx⟩ := rd i iL
              have e3 := (Value.slice.inj ew).1
              clear ew
              subst e3
              subst e1
              obtain ⟨v, hv⟩ := Option.isSome_iff_exists.1 ((HML.out L[i]).1 (List.getElem_mem iL))
              obtain ⟨kk, q, ck, hv2, hq, hblk⟩ := HS.out.giv _ v hv
              subst hv2
              have hgq : G ((q * 2 ^ kk : Nat) : Int) = some (kk : Int) := by rw [← hq]; exact hv
              obtain ⟨mm2, hmm, m1, m2, wA, wB⟩ := pw_facts ck
              obtain ⟨a, ha⟩ : ∃ a : Nat, a = q * 2 ^ kk := ⟨_, rfl⟩
              have cx' : wr.cell? ⟨gq, i, none⟩ = some (.int .i64 (a : Int)) := by rw [cx, hq, ha]
              have OC : Hid (Calls Try.prog 23 #[.pointer (some ⟨b, 0, none⟩), .int .i64 a] wr fun e w' => e = .returned (.int .i64 kk) ∧ w' = wr) := by
                have wb := HS.out.wf (x := (a : Int)) (by rw [ha, hgq]; rfl)
                have r := hJ.out.1.1.order (x := (a : Int)) (wf64 (by omega) (by omega))
                rw [ha, hgq] at r
                rw [ha]
                exact r
              have MC2 : Hid (Calls Try.prog 28 #[.slice (some ⟨sb, 0, none⟩) 6000 6000, .slice (some ⟨g, 0, none⟩) m cap, .int .i64 a, .int .i64 mm2] wr fun e w' => e = .returned (.bool true) ∧ (Bu (fun j => j < w1.heap.size ∨ j = sb) w' b N F G ∧ Sn w' sb 6000 (fun x => F x ∨ gL G (L.take (i + 1)) x) ∧ (nn + mm2) = cnt (fun x => F x ∨ gL G (L.take (i + 1)) x) 1048576 ∧ Below w1.heap.size w1 w') ∧ Lsl w' (sb + 1) (.slice (some ⟨gq, 0, none⟩) ll cc) L) := by
                rw [ha, hmm]
                refine (MC.out wr (fun x => F x ∨ gL G (L.take i) x) nn kk q ck hJ.out.1 (fun x hx => ?_)).mono ?_
                rotate_left
                · rintro e w' ⟨he, h, kf⟩
                  have e2 : (fun x => (F x ∨ gL G (L.take i) x) ∨ x / 2 ^ kk = q) = (fun x => F x ∨ gL G (L.take (i + 1)) x) := by
                    funext x; apply propext
                    rw [gl_take iL hq hgq]
                    exact or_assoc
                  rw [e2] at h
                  exact ⟨he, h, hJ.out.2.keep kf (by omega)⟩
                · refine ⟨fun h => ?_, (hblk x hx).1⟩
                  rcases h with h | ⟨y, hy, k2, q2, l2, hq2, hg2, e2⟩
                  · exact (hblk x hx).2 h
                  · rw [hq2] at hg2
                    obtain ⟨r1, r2⟩ := HS.out.dj k2 q2 kk q x l2 ck hg2 hgq e2 hx
                    subst r1; subst r2
                    rw [← hq] at hq2
                    rw [hq2] at hy
                    exact take_nd (asc_nd HAL.out) iL hy
              have tm : (a : Int).tmod (mm2 : Int) = 0 := by
                rw [← Int.ofNat_tmod, ha, hmm, Nat.mul_mod_left]; rfl
              have nb : nn ≤ 1048576 := by rw [hJ.out.1.2.2.1]; exact cnt_le _ _
              have z1 : ((mm2 : Int) == 0) = false := by simp; omega
              have z2 : ¬ (mm2 : Int) = 0 := by omega
              have k0 : decide ((kk : Int) < 0) = false := by simp
              have k1 : decide ((10 : Int) < (kk : Int)) = false := by simp; omega
              clear hJ rd cx hq hgq hblk hv hmm ha iL
              go_wp2_with fail
              refine Calls.mono OC.out ?_
              rintro e u0 ⟨rfl, rfl⟩
              clear OC
              go_wp2_with fail
              refine Calls.mono MC2.out ?_
              rintro e u2 ⟨rfl, hJ2⟩
              have J3 : Hid ((Bu (fun j => j < w1.heap.size ∨ j = sb) u2 b N F G ∧ Sn u2 sb 6000 (fun x => F x ∨ gL G (L.take (i + 1)) x) ∧ (nn + mm2) = cnt (fun x => F x ∨ gL G (L.take (i + 1)) x) 1048576 ∧ Below w1.heap.size w1 u2) ∧ Lsl u2 (sb + 1) (.slice (some ⟨gq, 0, none⟩) ll cc) L) := hJ2
              clear hJ2 MC2
              go_wp2_with fail
              go_roundw
              case rel => exact ⟨i + 1, nn + mm2, by omega, by go_num, by go_num, J3⟩
              case measure => simp [Go.RowKit.intOf]; omega
            obtain rfl : i = ll := by omega
            have d2 : decide ((i : Int) < (i : Int)) = false := by simp
            have e5 : nn = cnt (RU F0 m) 1048576 := by
              have e1 : (fun x => F x ∨ gL G (L.take i) x) = (RU F0 m) := by
                rw [HLL.out, List.take_length]
                exact gl_all HS.out HML.out
              have := hJ.out.1.2.2.1
              rw [e1] at this
              exact this
            have NE : Hid (nn = cnt (RU F0 m) 1048576) := e5
            have nb : nn ≤ 1048576 := by rw [e5]; exact cnt_le _ _
            have BW : Hid (Below w1.heap.size w1 wr) := hJ.out.1.2.2.2
            clear hJ ci e5
            go_wp2_with fail
            go_loopw [16, 18, 143] (fun va _ vi W => ∃ j aa : Nat, j ≤ m ∧ vi = .int .i64 j ∧ va = .int .i64 aa ∧ Hid (aa = cnt (RU F0 j) 1048576 ∧ Below w1.heap.size w1 W)) (fun _ _ vi _ => m - (Go.RowKit.intOf vi).toNat)
            case atStart => exact ⟨0, 0, by omega, rfl, rfl, ⟨by rw [ru_none, cnt_none], BW.out⟩⟩
            case round =>
              clear BW
              obtain ⟨j, aa, hj, rfl, rfl, hJ⟩ := hrel
              by_cases cj : j < m
              · have d4 : decide ((j : Int) < (m : Int)) = true := by simp; omega
                have d5 : decide ((j : Int) < 0) = false := by simp
                have RR := HR.out.below hJ.out.2
                obtain ⟨q1, q2⟩ := RR.2 j cj
                have lg := RR.1
                have fo := FO.out j cj
                have ep := end_pos FO.out j hj
                obtain ⟨f, hf⟩ : ∃ f : Nat, (F0 j).1 = (f : Int) := ⟨(F0 j).1.toNat, by omega⟩
                obtain ⟨t, ht⟩ : ∃ t : Nat, (F0 j).2 = (t : Int) := ⟨(F0 j).2.toNat, by omega⟩
                have NX : Hid (aa + (t - f) = cnt (RU F0 (j + 1)) 1048576) := by
                  show aa + (t - f) = _
                  rw [← ru_seg hf ht]
                  unfold seg
                  rw [cnt_or _ _ (fun x h1 h2 => by have := ru_lt FO.out hj h1; omega), cnt_seg f t (by omega), hJ.out.1]
                  omega
                have ab : aa ≤ 1048576 := by rw [hJ.out.1]; exact cnt_le _ _
                have ft : f < t := by omega
                have t9 : t ≤ 1048576 := by omega
                rw [hf] at q1
                rw [ht] at q2
                have HW : Hid (Below w1.heap.size w1 wr) := hJ.out.2
                clear RR fo ep hf ht hJ
                go_wp2_with fail
                go_roundw
                case rel => exact ⟨j + 1, aa + (t - f), by omega, by go_num, by congr 1; omega, ⟨NX.out, HW.out.alloc HW.out.size _⟩⟩
                case measure => simp [Go.RowKit.intOf]; omega
              obtain rfl : j = m := by omega
              have d4 : decide ((j : Int) < (j : Int)) = false := by simp
              obtain rfl : nn = aa := NE.out.trans hJ.out.1.symm
              have HW : Hid (Below w.heap.size w wr) := B1.out.trans (hJ.out.2.mono B1.out.size)
              clear hJ cj
              go_wp2_with fail
              refine Calls.mono (AWH.out _) ?_
              rintro e u3 ⟨rfl, hb⟩
              have HU : Hid (Below w.heap.size w u3) := HW.out.trans (hb.mono HW.out.size)
              clear hb
              go_wp2_with fail
              go_ret
              exact ⟨rfl, HU.out⟩

theorem own : ownKnob Try.prog.godebug = none := by kernel_rfl
theorem laidOut : laidOutB Try.prog = true := by kernel_rfl
set_option maxRecDepth 100000 in
theorem lifted (os : Os) (started : os.Started) (H : Type) (enc : TypeId × Value → H) :
    ReturnsInHanded {} Try.checked os 5 .any (Rows.buddyApartSpec.pre6 enc Try.prog Try.f5 Rows.buddyApartRow.domain false) (Rows.buddyApartSpec.post enc Try.prog Try.f5 false true false false) := by
  refine returnsInHanded_of_change (C := Try.checked) own started (by kernel_rfl) Try.func5
    (ChangeSpec.witness6 (enc := enc) (C := Try.checked) false ⟨#[], #[.slice none 0 0, .slice none 0 0], []⟩ 8 (by kernel_rfl) (by kernel_rfl) (by kernel_rfl) (by kernel_rfl)) ?_
  intro W base args ds gs before hval0 hW hcnd _
  have hval : ∀ (j : Nat) t v, Try.f5.params[j]? = some t → args[j]? = some v → Value.okWide Try.prog W .any base t v := hval0
  have hW' := hW
  obtain ⟨p, q, hA0, hV, hbef, hfz, hnd⟩ := hW
  have hA : DataW.TrodAll enc Try.prog W 0 (fun _ => true) true Try.f5.params.toList args.toList ds p := hA0
  have hAk := hA
  have hlt : ∀ x ∈ p, x.block < W.heap.size := fun x hx => hW'.lt x (by rw [hbef]; exact List.mem_append_left _ hx)
  rw [Try.params5] at hA hval
  obtain ⟨v0, vs0, d0, ds0, p0, q0, hargs, rfl, hp0, h0, r0⟩ := trodAll_cons hA
  obtain ⟨v1, vs1, d1, ds1, p1, q1, rfl, rfl, hp1, h1, r1⟩ := trodAll_cons r0
  obtain ⟨rfl, rfl, hpz⟩ := trodAll_nil r1
  obtain rfl : args = #[v0, v1] := by cases args; simp_all
  obtain ⟨rfl, rfl⟩ := trodVars_none hV
  obtain ⟨p0, n0, c0, F0, rfl, m0, l0, H0⟩ := open_rgs (hval 0 22 v0 rfl rfl) h0
  obtain ⟨p1, n1, c1, A1, rfl, m1, l1, H1⟩ := open_acts (hval 1 23 v1 rfl rfl) h1
  clear hA0 hval0
  refine (walk p0 n0 c0 F0 m0 l0 p1 n1 c1 A1 m1 l1 W H0 H1).mono fun e W' ⟨he, hg⟩ => ?_
  subst he
  exact ⟨_, rfl, ⟨_, _, _, [], p, [], hW', (trodAll_cons_mk (shut_bool Try.underlying4 _) trodAll_mk0), args_stay laidOut hg (by kernel_rfl) hAk hlt, rfl, hg.frame _, fun h => by cases h⟩⟩

theorem over : Rows.buddyApartRow.holds Try.pinned (OpenSpec.ofChange Rows.buddyApartSpec) :=
  OpenClaim.holds_of_wide 5 Try.f5 rfl rfl rfl rfl rfl rfl rfl ⟨rfl, rfl, rfl, rfl, rfl⟩ rfl rfl rfl rfl rfl (by kernel_rfl) Try.func5 (by kernel_rfl)
    (of_decide_eq_true (by kernel_rfl)) (by unfold Func.isWrapper; first | (rw [if_pos (by decide +kernel)]; kernel_rfl) | (rw [if_neg (by decide +kernel)]; exact ⟨rfl, rfl⟩))
    (fun os started H enc _ => lifted os started H enc)

theorem proved : Rows.BuddyApartSaid :=
  over
#print axioms proved
end Go.Proofs.Ytpjejjonkdhelaa.buddyApart
