/- For any orders: blocks that are taken one behind the other of a range of 4096 frames never meet and begin at multiples of their size, and what is free and what is taken make 4096; of any 60 orders; no condition. -/
import Derived.Test.YtpjejjonkdhelaaRows
import Derived.ProofKit
import Derived.OpenShut
import Derived.Carry
import Derived.Test.YtpjejjonkdhelaaBDO
import Derived.Laws.ShiftsVar
namespace Go.Proofs.Ytpjejjonkdhelaa.buddyOrders
open Go.ChangeShapes Go.WideShapes Go.ChangeAt Go.RowKit Go.Maps
set_option linter.unusedSimpArgs false
set_option linter.unusedVariables false
theorem pw_facts {o : Nat} (ho : o ≤ 10) : ∃ m : Nat, m = 2 ^ o ∧ 1 ≤ m ∧ m ≤ 1024 ∧ (∀ q : Nat, q = o → IntKind.i64.wrap ((2 : Int) ^ q) = (m : Int)) ∧ (∀ q : Nat, q = o → wrap64 ((2 : Int) ^ q) = (m : Int)) := by
  have l := pow_small ho
  have p := p2pos o
  have h3 := wrap_pow ho
  refine ⟨2 ^ o, rfl, p, l, ?_, ?_⟩
  · rintro q rfl
    rw [Go.IntWalk.i64_left]; exact h3
  · rintro q rfl
    exact h3
/-- behind a take and its mark -/
theorem took_next {w W u v : World} {b sb N o p f q d g : Nat} {F S : Nat → Prop} {G : Int → Option Int} (T : Took F o p f q d) (ho : o ≤ 10) (hB : Bu (fun j => j < w.heap.size ∨ j = sb) u b N (fun i => F i ∧ ¬ i / 2 ^ o = p) G) (hF : ∀ i, F i → i < 4096 ∧ ¬ S i) :
    p * 2 ^ o + 2 ^ o ≤ 4096 ∧ (∀ i, p * 2 ^ o ≤ i → i < p * 2 ^ o + 2 ^ o → ¬ S i ∧ RU (fun _ => (((0 : Nat) : Int), ((4096 : Nat) : Int))) 1 i) ∧
    (∀ i, (F i ∧ ¬ i / 2 ^ o = p) → i < 4096 ∧ ¬ (S i ∨ (p * 2 ^ o ≤ i ∧ i < p * 2 ^ o + 2 ^ o))) ∧ cnt (fun i => F i ∧ ¬ i / 2 ^ o = p) 1048576 + 2 ^ o = cnt F 1048576 := by
  have all : ∀ i, p * 2 ^ o ≤ i → i < p * 2 ^ o + 2 ^ o → F i := fun i h1 h2 => T.all i ((in_blk o p i).2 ⟨h1, h2⟩)
  have pp := p2pos o
  have top : p * 2 ^ o + 2 ^ o ≤ 4096 := by
    have l := (hF (p * 2 ^ o + (2 ^ o - 1)) (all _ (Nat.le_add_right _ _) (by generalize 2 ^ o = Q at *; generalize p * Q = X at *; omega))).1
    generalize 2 ^ o = Q at *
    generalize p * Q = X at *
    omega
  refine ⟨top, fun i h1 h2 => ⟨(hF i (all i h1 h2)).2, ?_⟩, fun i hi => ⟨(hF i hi.1).1, ?_⟩, ?_⟩
  · rw [ru_one]
    exact ⟨Nat.zero_le _, (hF i (all i h1 h2)).1⟩
  · rintro (h | h)
    · exact (hF i hi.1).2 h
    · exact hi.2 ((in_blk o p i).2 h)
  · have e := cnt_sub F (fun i => i / 2 ^ o = p) (fun i hi => T.all i hi) 1048576
    rw [cnt_blk (Nat.le_trans top (by decide))] at e
    exact e

set_option maxRecDepth 8000 in
set_option maxHeartbeats 4000000 in
theorem walk (p0 : Option Addr) (n0 c0 : Nat) (A0 : Nat → Int) (m0 : n0 ≤ maxLen) (w : World) (H0 : IsInts w p0 n0 A0) :
    Calls Try.prog 8 #[.slice p0 n0 c0] w fun e w' => e = .returned (.bool true) ∧ Below w.heap.size w w' := by
  have AWH : Hid (∀ W : World, Calls Try.prog 12 #[] W fun e w' => e = .returned (.bool true) ∧ Below W.heap.size W w') := fun W => awake_any W
  have NC : Hid (Calls Try.prog 10 #[.slice (some ⟨w.heap.size, 0, none⟩) 1 1] (w.alloc (.cells #[.int .i64 0, .int .i64 4096] 59)) fun e w' => ∃ b, e = .returned (.tuple #[.pointer (some ⟨b, 0, none⟩), .int .i64 0]) ∧ Bu (fun j => j < w.heap.size) w' b 4096 (fun i => 0 ≤ i ∧ i < 4096) noneF ∧ Below w.heap.size w w') := by
    refine (new_ok w.heap.size 1 1 (by omega) _ _ (rgs_one w 0 4096) (form_one (f := 0) (t := 4096) (by omega) (by omega))).mono ?_
    rintro e w' ⟨b, he, hB, hb⟩
    rw [show (fun _ => ((0 : Int), (4096 : Int))) = (fun _ => (((0 : Nat) : Int), ((4096 : Nat) : Int))) from rfl, ru_one 0 4096] at hB
    have sz := World.size_alloc w (.cells #[.int .i64 0, .int .i64 4096] 59)
    exact ⟨b, he, hB.less (fun j hj => by omega), below_then (Go.Joins.below_alloc1 _ _) hb⟩
  have HA : Hid (IsInts w p0 n0 A0) := H0
  have mm : (n0 : Int) ≤ 9223372036854775807 := by have : maxLen ≤ 9223372036854775807 := by decide +kernel
                                                   omega
  clear H0
  go_enter Try.func8, Try.ntmps8
  go_wp2_with fail
  refine Calls.mono NC.out ?_
  rintro e w1 ⟨b, rfl, hB, hb⟩
  obtain ⟨w2, mk, hS, b2, z2⟩ := sn_make 4096 (by omega) w1
  obtain ⟨sb, hsb⟩ : ∃ sb, sb = w1.heap.size := ⟨_, rfl⟩
  rw [← hsb] at mk hS
  have J0 : Hid (∃ (F S : Nat → Prop) (G : Int → Option Int), Bu (fun j => j < w.heap.size ∨ j = sb) w2 b (4096 + 20 * 0) F G ∧ Sn w2 sb 4096 S ∧ (∀ i, F i → i < 4096 ∧ ¬ S i) ∧ 0 + cnt F 1048576 = 4096 ∧ Below w.heap.size w w2) := by
    have hB2 := hB.next b2.size (fun j hj _ => b2.block j hj)
    refine ⟨_, _, noneF, hB2.less (fun j hj => ?_), hS, fun i hi => ⟨hi.2, fun h => h⟩, ?_, hb.trans (b2.mono hb.size)⟩
    · rcases hj with h | h
      · exact Or.inl h
      · right; omega
    · rw [cnt_seg 0 4096 (by omega)]; rfl
  have LS : Hid (w.heap.size ≤ sb) := by show _ ≤ _; rw [hsb]; exact hb.size
  have mk' : Sem.run Try.prog (Instr.makeSlice 32 (.int .i64 4096) (.int .i64 4096)) w1 = .ok (.slice (some ⟨sb, 0, none⟩) 4096 4096) w2 := mk
  clear hB hb hS b2 z2 mk hsb NC
  go_wp2_with fail
  go_loopw [6, 7, 8, 9, 10] (fun vn vi _ _ _ W => ∃ (k nn : Nat), k ≤ n0 ∧ k ≤ 60 ∧ vi = .int .i64 k ∧ vn = .int .i64 nn ∧ nn ≤ 4096 ∧ Hid (∃ (F S : Nat → Prop) (G : Int → Option Int), Bu (fun j => j < w.heap.size ∨ j = sb) W b (4096 + 20 * k) F G ∧ Sn W sb 4096 S ∧ (∀ i, F i → i < 4096 ∧ ¬ S i) ∧ nn + cnt F 1048576 = 4096 ∧ Below w.heap.size w W)) (fun _ vi _ _ _ _ => 60 - (Go.RowKit.intOf vi).toNat)
  case atStart => exact ⟨0, 0, by omega, by omega, rfl, rfl, by omega, J0⟩
  case round =>
    clear J0
    obtain ⟨k, nn, hk, hk6, rfl, rfl, hnn, hI⟩ := hrel
    by_cases hlt : k < n0 ∧ k < 60
    rotate_left
    · obtain ⟨F, S, G, hB, hS, hF, hc, hb⟩ := hI.out
      have FC : Hid (∀ W', Below wr.heap.size wr W' → Calls Try.prog 21 #[.pointer (some ⟨b, 0, none⟩)] W' fun e w' => e = .returned (.int .i64 (4096 - nn)) ∧ w' = W') := fun W' hb' => by
        have r := (hB.below hb').free
        rw [show ((cnt F 1048576 : Nat) : Int) = 4096 - (nn : Int) by omega] at r
        exact r
      have HBW : Hid (Below w.heap.size w wr) := hb
      have AC : Hid (Calls Try.prog 12 #[] wr fun e w' => e = .returned (.bool true) ∧ Below wr.heap.size wr w') := AWH.out wr
      clear hB hS hF hc hb hI
      by_cases c1 : k < n0
      · obtain rfl : k = 60 := by omega
        have hd : decide ((60 : Int) < (n0 : Int)) = true := by simp; omega
        have hd2 : decide (((60 : Nat) : Int) < (n0 : Int)) = true := by simp; omega
        clear hlt
        go_wp2_with fail
        refine Calls.mono AC.out ?_
        rintro e u ⟨rfl, hu⟩
        have FC2 : Hid (Calls Try.prog 21 #[.pointer (some ⟨b, 0, none⟩)] u fun e w' => e = .returned (.int .i64 (4096 - nn)) ∧ w' = u) := FC.out u hu
        have HU : Hid (Below w.heap.size w u) := HBW.out.trans (hu.mono HBW.out.size)
        clear hu FC
        go_wp2_with fail
        refine Calls.mono FC2.out ?_
        rintro e u2 ⟨rfl, rfl⟩
        go_wp2_with fail
        go_ret
        exact ⟨rfl, HU.out⟩
      · obtain rfl : k = n0 := by omega
        have hd : decide ((k : Int) < (k : Int)) = false := by simp
        clear hlt
        go_wp2_with fail
        refine Calls.mono AC.out ?_
        rintro e u ⟨rfl, hu⟩
        have FC2 : Hid (Calls Try.prog 21 #[.pointer (some ⟨b, 0, none⟩)] u fun e w' => e = .returned (.int .i64 (4096 - nn)) ∧ w' = u) := FC.out u hu
        have HU : Hid (Below w.heap.size w u) := HBW.out.trans (hu.mono HBW.out.size)
        clear hu FC
        go_wp2_with fail
        refine Calls.mono FC2.out ?_
        rintro e u2 ⟨rfl, rfl⟩
        go_wp2_with fail
        go_ret
        exact ⟨rfl, HU.out⟩
    have hd : decide ((k : Int) < (n0 : Int)) = true := by simp; omega
    have hd2 : decide ((k : Int) < 60) = true := by simp; omega
    have hd0 : decide ((k : Int) < 0) = false := by simp
    obtain ⟨pb, po, rfl, lpb, cA, wfA⟩ := HA.out k hlt.1
    have BW : Below w.heap.size w wr := by obtain ⟨F, S, G, hB, hS, hF, hc, hb⟩ := hI.out; exact hb
    have cA' : wr.cell? ⟨pb, po + k, none⟩ = some (.int .i64 (A0 k)) := by rw [World.cell?_of_block (w := w) (a := ⟨pb, po + k, none⟩) (BW.block pb lpb)]; exact cA
    have lpb' : pb < wr.heap.size := Nat.lt_of_lt_of_le lpb BW.size
    obtain ⟨x, hx⟩ : ∃ x, x = A0 k := ⟨_, rfl⟩
    rw [← hx] at cA' wfA
    clear cA BW hx wfA
    by_cases ord : 0 ≤ x ∧ x ≤ 10
    rotate_left
    · have TN : Hid (Calls Try.prog 15 #[.pointer (some ⟨b, 0, none⟩), .int .i64 x] wr fun e w' => e = .returned (.tuple #[.int .i64 0, .int .i64 1]) ∧ w' = wr) := take_no b x ord wr
      have J2 : Hid (∃ (F S : Nat → Prop) (G : Int → Option Int), Bu (fun j => j < w.heap.size ∨ j = sb) wr b (4096 + 20 * (k + 1)) F G ∧ Sn wr sb 4096 S ∧ (∀ i, F i → i < 4096 ∧ ¬ S i) ∧ nn + cnt F 1048576 = 4096 ∧ Below w.heap.size w wr) := by
        obtain ⟨F, S, G, hB, r⟩ := hI.out
        exact ⟨F, S, G, hB.mono (by omega), r⟩
      clear hI
      by_cases x0 : x < 0
      · have e0 : decide (x < 0) = true := by simp [x0]
        clear ord
        go_wp2_with fail
        refine Calls.mono TN.out ?_
        rintro e u ⟨rfl, rfl⟩
        go_wp2_with fail
        go_roundw
        case rel => exact ⟨k + 1, nn, by omega, by omega, by go_num, rfl, hnn, J2⟩
        case measure => simp [Go.RowKit.intOf]; omega
      · have e0 : decide (x < 0) = false := by simp; omega
        have e1 : decide (10 < x) = true := by simp; omega
        clear ord
        go_wp2_with fail
        refine Calls.mono TN.out ?_
        rintro e u ⟨rfl, rfl⟩
        go_wp2_with fail
        go_roundw
        case rel => exact ⟨k + 1, nn, by omega, by omega, by go_num, rfl, hnn, J2⟩
        case measure => simp [Go.RowKit.intOf]; omega
    obtain ⟨o, rfl⟩ : ∃ o : Nat, x = (o : Int) := ⟨x.toNat, by omega⟩
    have o10 : o ≤ 10 := by omega
    have e0 : decide ((o : Int) < 0) = false := by simp
    have e1 : decide (10 < (o : Int)) = false := by simp; omega
    have TC : Hid (Calls Try.prog 15 #[.pointer (some ⟨b, 0, none⟩), .int .i64 o] wr fun e w' => (e = .returned (.tuple #[.int .i64 0, .int .i64 7]) ∧ w' = wr ∧ (∃ (F S : Nat → Prop) (G : Int → Option Int), Bu (fun j => j < w.heap.size ∨ j = sb) wr b (4096 + 20 * (k + 1)) F G ∧ Sn wr sb 4096 S ∧ (∀ i, F i → i < 4096 ∧ ¬ S i) ∧ nn + cnt F 1048576 = 4096 ∧ Below w.heap.size w wr) ∧ ∃ fr : Nat, fr ≤ 4096 ∧ Hid (Calls Try.prog 21 #[.pointer (some ⟨b, 0, none⟩)] wr fun e w' => e = .returned (.int .i64 fr) ∧ w' = wr)) ∨
        ∃ a m : Nat, e = .returned (.tuple #[.int .i64 a, .int .i64 0]) ∧ m = 2 ^ o ∧ (∃ p, a = p * m) ∧ a + m ≤ 4096 ∧ nn + m ≤ 4096 ∧ Hid (∀ W', W' = w'.alloc (.cells #[.int .i64 0, .int .i64 4096] 59) → Calls Try.prog 28 #[.slice (some ⟨sb, 0, none⟩) 4096 4096, .slice (some ⟨w'.heap.size, 0, none⟩) 1 1, .int .i64 a, .int .i64 m] W' fun e w2 => e = .returned (.bool true) ∧ (∃ (F S : Nat → Prop) (G : Int → Option Int), Bu (fun j => j < w.heap.size ∨ j = sb) w2 b (4096 + 20 * (k + 1)) F G ∧ Sn w2 sb 4096 S ∧ (∀ i, F i → i < 4096 ∧ ¬ S i) ∧ (nn + m) + cnt F 1048576 = 4096 ∧ Below w.heap.size w w2))) := by
      obtain ⟨F, S, G, hB, hS, hF, hc, hb⟩ := hI.out
      refine (hB.take o o10 (by omega)).mono ?_
      rintro e w' (⟨he, hw, _⟩ | ⟨p, f, q, d, he, T, hB2, kf⟩)
      · refine Or.inl ⟨he, hw, ⟨F, S, G, hB.mono (by omega), hS, hF, hc, hb⟩, cnt F 1048576, by omega, hB.free⟩
      · right
        obtain ⟨t1, t2, t3, t4⟩ := took_next (w := w) (W := wr) (v := w') (g := 0) T o10 hB2 hF
        have pp := p2pos o
        have hS2 : Sn w' sb 4096 S := hS.block (kf.block sb hS.lt (fun h => h (Or.inr rfl)))
        refine ⟨p * 2 ^ o, 2 ^ o, he, rfl, ⟨p, rfl⟩, t1, by generalize 2 ^ o = Q at *; omega, ?_⟩
        rintro W' rfl
        have sz := World.size_alloc w' (.cells #[.int .i64 0, .int .i64 4096] 59)
        have ba : Below w'.heap.size w' (w'.alloc (.cells #[.int .i64 0, .int .i64 4096] 59)) := Go.Joins.below_alloc1 _ _
        have ls := hS2.lt
        refine (mark_any w'.heap.size 1 1 sb 4096 4096 (p * 2 ^ o) (2 ^ o) _ (by omega) (Nat.le_trans (pow_small o10) (by decide)) t1 (by omega) S _ (rgs_one w' 0 4096) (hS2.block (ba.block sb ls)) (by omega) t2).mono ?_
        rintro e w2 ⟨he2, hS3, kf2⟩
        refine ⟨he2, _, _, _, ((hB2.below ba).next kf2.size (fun j hj nz => kf2.block j hj (fun e => nz (Or.inr e)))).less (fun j hj => Or.inl hj) |>.mono (by omega), hS3, t3, by omega, ?_⟩
        have bW : Below w.heap.size w w' := hb.trans (⟨kf.os, kf.tape, kf.output, kf.size, fun j hj => kf.block j (Nat.lt_of_lt_of_le hj hb.size) (fun h => h (Or.inl hj))⟩)
        have b3 : Below w.heap.size w (w'.alloc (.cells #[.int .i64 0, .int .i64 4096] 59)) := bW.alloc bW.size _
        exact b3.trans ⟨kf2.os, kf2.tape, kf2.output, kf2.size, fun j hj => kf2.block j (Nat.lt_of_lt_of_le hj b3.size) (fun h => by have := LS.out; omega)⟩
    clear hI ord
    go_wp2_with fail
    refine Calls.mono TC.out ?_
    rintro e u (⟨rfl, rfl, hJ, fr, f9, FC⟩ | ⟨a, m, rfl, hm, ⟨p, hp⟩, ham, hnm, MC⟩)
    · have J2 : Hid (∃ (F S : Nat → Prop) (G : Int → Option Int), Bu (fun j => j < w.heap.size ∨ j = sb) u b (4096 + 20 * (k + 1)) F G ∧ Sn u sb 4096 S ∧ (∀ i, F i → i < 4096 ∧ ¬ S i) ∧ nn + cnt F 1048576 = 4096 ∧ Below w.heap.size w u) := hJ
      have g1 : decide ((11264 : Int) ≤ (fr : Int)) = false := by simp; omega
      clear hJ TC
      go_wp2_with fail
      refine Calls.mono FC.out ?_
      rintro e u2 ⟨rfl, rfl⟩
      go_wp2_with fail
      go_roundw
      case rel => exact ⟨k + 1, nn, by omega, by omega, by go_num, rfl, hnn, J2⟩
      case measure => simp [Go.RowKit.intOf]; omega
    · obtain ⟨m', hm', m1, m2, wA, wB⟩ := pw_facts o10
      obtain rfl : m = m' := hm.trans hm'.symm
      have tm : (a : Int).tmod (m : Int) = 0 := by
        rw [← Int.ofNat_tmod, hp, Nat.mul_mod_left]; rfl
      have z1 : ((m : Int) == 0) = false := by simp; omega
      have z2 : ¬ (m : Int) = 0 := by omega
      have MC2 : Hid (Calls Try.prog 28 #[.slice (some ⟨sb, 0, none⟩) 4096 4096, .slice (some ⟨u.heap.size, 0, none⟩) 1 1, .int .i64 a, .int .i64 m] (u.alloc (.cells #[.int .i64 0, .int .i64 4096] 59)) fun e w2 => e = .returned (.bool true) ∧ (∃ (F S : Nat → Prop) (G : Int → Option Int), Bu (fun j => j < w.heap.size ∨ j = sb) w2 b (4096 + 20 * (k + 1)) F G ∧ Sn w2 sb 4096 S ∧ (∀ i, F i → i < 4096 ∧ ¬ S i) ∧ (nn + m) + cnt F 1048576 = 4096 ∧ Below w.heap.size w w2)) := MC.out _ rfl
      clear TC MC hm hm' hp
      go_wp2_with fail
      refine Calls.mono MC2.out ?_
      rintro e u3 ⟨rfl, hJ⟩
      have J2 : Hid (∃ (F S : Nat → Prop) (G : Int → Option Int), Bu (fun j => j < w.heap.size ∨ j = sb) u3 b (4096 + 20 * (k + 1)) F G ∧ Sn u3 sb 4096 S ∧ (∀ i, F i → i < 4096 ∧ ¬ S i) ∧ (nn + m) + cnt F 1048576 = 4096 ∧ Below w.heap.size w u3) := hJ
      clear hJ MC2
      go_wp2_with fail
      go_roundw
      case rel => exact ⟨k + 1, nn + m, by omega, by omega, by go_num, by go_num, hnm, J2⟩
      case measure => simp [Go.RowKit.intOf]; omega

theorem own : ownKnob Try.prog.godebug = none := by kernel_rfl
theorem laidOut : laidOutB Try.prog = true := by kernel_rfl
set_option maxRecDepth 100000 in
theorem lifted (os : Os) (started : os.Started) (H : Type) (enc : TypeId × Value → H) :
    ReturnsInHanded {} Try.checked os 8 .any (Rows.buddyOrdersSpec.pre6 enc Try.prog Try.f8 Rows.buddyOrdersRow.domain false) (Rows.buddyOrdersSpec.post enc Try.prog Try.f8 false true false false) := by
  refine returnsInHanded_of_change (C := Try.checked) own started (by kernel_rfl) Try.func8
    (ChangeSpec.witness6 (enc := enc) (C := Try.checked) false ⟨#[], #[.slice none 0 0], []⟩ 8 (by kernel_rfl) (by kernel_rfl) (by kernel_rfl) (by kernel_rfl)) ?_
  intro W base args ds gs before hval0 hW hcnd _
  have hval : ∀ (j : Nat) t v, Try.f8.params[j]? = some t → args[j]? = some v → Value.okWide Try.prog W .any base t v := hval0
  have hW' := hW
  obtain ⟨p, q, hA0, hV, hbef, hfz, hnd⟩ := hW
  have hA : DataW.TrodAll enc Try.prog W 0 (fun _ => true) true Try.f8.params.toList args.toList ds p := hA0
  have hAk := hA
  have hlt : ∀ x ∈ p, x.block < W.heap.size := fun x hx => hW'.lt x (by rw [hbef]; exact List.mem_append_left _ hx)
  rw [Try.params8] at hA hval
  obtain ⟨v0, vs0, d0, ds0, p0, q0, hargs, rfl, hp0, h0, r0⟩ := trodAll_cons hA
  obtain ⟨rfl, rfl, hpz⟩ := trodAll_nil r0
  obtain rfl : args = #[v0] := by cases args; simp_all
  obtain ⟨rfl, rfl⟩ := trodVars_none hV
  obtain ⟨p0, n0, c0, A0, rfl, m0, H0⟩ := open_ints (hval 0 44 v0 rfl rfl) h0
  clear hA0 hval0
  refine (walk p0 n0 c0 A0 m0 W H0).mono fun e W' ⟨he, hg⟩ => ?_
  subst he
  exact ⟨_, rfl, ⟨_, _, _, [], p, [], hW', (trodAll_cons_mk (shut_bool Try.underlying4 _) trodAll_mk0), args_stay laidOut hg (by kernel_rfl) hAk hlt, rfl, hg.frame _, fun h => by cases h⟩⟩

theorem over : Rows.buddyOrdersRow.holds Try.pinned (OpenSpec.ofChange Rows.buddyOrdersSpec) :=
  OpenClaim.holds_of_wide 8 Try.f8 rfl rfl rfl rfl rfl rfl rfl ⟨rfl, rfl, rfl, rfl, rfl⟩ rfl rfl rfl rfl rfl (by kernel_rfl) Try.func8 (by kernel_rfl)
    (of_decide_eq_true (by kernel_rfl)) (by unfold Func.isWrapper; first | (rw [if_pos (by decide +kernel)]; kernel_rfl) | (rw [if_neg (by decide +kernel)]; exact ⟨rfl, rfl⟩))
    (fun os started H enc _ => lifted os started H enc)

theorem proved : Rows.BuddyOrdersSaid :=
  over
#print axioms proved
end Go.Proofs.Ytpjejjonkdhelaa.buddyOrders
