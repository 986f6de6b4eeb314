/- For any length of turns and any calls: behind each of any 100 calls just those wait that the document says, in this order, with the ticks and the turn that it says; no condition. -/
import Derived.Test.YtcamghafjgjgdaaRows
import Derived.ProofKit
import Derived.OpenShut
import Derived.Carry
import Derived.Test.YtcamghafjgjgdaaJ5
import Derived.Deep.DeepCutAuto
import Derived.Deep.CutBlock
import Derived.Sort.BigQuietIn
namespace Go.Proofs.Ytcamghafjgjgdaa.schedPlays
open Go.ChangeShapes Go.WideShapes Go.ChangeAt Go.RowKit Go.Maps
set_option linter.unusedSimpArgs false
set_option linter.unusedVariables false
theorem own_far {w W : World} {b x : Nat} {S : Qu} (h : Own w W b S) (o : Nat) (v : Value) (ne : b ≠ x) (hx : w.heap.size ≤ x) : Own w (W.setCell ⟨x, o, none⟩ v) b S :=
  ⟨h.1.kept (fun _ => Below.heap_setCell _ _ _ _ ne), h.2.1.setCell hx v, h.2.2⟩
/-- the queue, and beside it the document's -/
def Both (w W : World) (xb : Nat) (S : Qu) (p : Option Addr) (c : Nat) : Prop := Own w W w.heap.size S ∧ Blk W xb [.int .i64 S.q, .int .i64 S.t, .slice p S.L.length c] 30 ∧ IsI W p S.L (xb + 1)
theorem both_below {w W W' : World} {xb : Nat} {S : Qu} {p : Option Addr} {c : Nat} (h : Both w W xb S p c) (hb : Below W.heap.size W W') : Both w W' xb S p c := ⟨h.1.grow hb, h.2.1.below hb, h.2.2.below hb⟩
theorem both_drew {w W : World} {xb : Nat} {S : Qu} {p : Option Addr} {c : Nat} (h : Both w W xb S p c) : Both w W.drew xb S p c := ⟨⟨⟨h.1.1.blk, h.1.1.few⟩, below_drew h.1.2.1, h.1.2.2⟩, h.2.1, h.2.2⟩
/-- the document's queue stored -/
theorem own_put {w W : World} {xb : Nat} {S : Qu} (h : Own w W w.heap.size S) (hx : w.heap.size < xb) (a b c : Value) : Own w (((W.setCell ⟨xb, 0, none⟩ a).setCell ⟨xb, 1, none⟩ b).setCell ⟨xb, 2, none⟩ c) w.heap.size S :=
  own_far (own_far (own_far h 0 _ (by omega) (by omega)) 1 _ (by omega) (by omega)) 2 _ (by omega) (by omega)
theorem blk_put {W : World} {xb : Nat} {x y z : Value} {t : TypeId} (h : Blk W xb [x, y, z] t) (a b c : Value) : Blk (((W.setCell ⟨xb, 0, none⟩ a).setCell ⟨xb, 1, none⟩ b).setCell ⟨xb, 2, none⟩ c) xb [a, b, c] t := ((h.set 0 a).set 1 b).set 2 c
theorem isi_put {W : World} {xb : Nat} {p : Option Addr} {L : List Int} (h : IsI W p L (xb + 1)) (a b c : Value) : IsI (((W.setCell ⟨xb, 0, none⟩ a).setCell ⟨xb, 1, none⟩ b).setCell ⟨xb, 2, none⟩ c) p L (xb + 1) :=
  ((h.kb (Kb.set _ _ _ _) (by omega)).kb (Kb.set _ _ _ _) (by omega)).kb (Kb.set _ _ _ _) (by omega)

set_option maxRecDepth 8000 in
set_option maxHeartbeats 8000000 in
theorem walk (a0 : Int) (w0 : (Lit.int .i64 a0).wf = true) (p1 : Option Addr) (n1 c1 : Nat) (A1 : Nat → Ac) (m1 : n1 ≤ maxLen) (w : World) (H1 : IsActs w p1 n1 A1) :
    Calls Try.prog 3 #[.int .i64 a0, .slice p1 n1 c1] w fun e w' => e = .returned (.bool true) ∧ Below w.heap.size w w' := by
  have AWH : Hid (∀ W : World, Calls Try.prog 9 #[] W fun e w' => e = .returned (.bool true) ∧ Below W.heap.size W w') := fun W => awake_any W
  by_cases q0 : a0 < 1 ∨ 1000 < a0
  · by_cases q1 : a0 < 1
    · have d1 : decide (a0 < 1) = true := by simp [q1]
      have NW : Hid (∀ W : World, Calls Try.prog 8 #[.int .i64 a0] W fun e w' => e = .returned (.tuple #[.pointer none, .int .i64 1]) ∧ w' = W) := fun W => new_no a0 q0 W
      go_enter Try.func3, Try.ntmps3
      go_wp2_with fail
      refine (NW.out _).mono ?_
      rintro e u ⟨rfl, hu⟩
      have hu2 := hu.symm
      subst hu2
      clear hu
      go_wp2_with fail
      refine (AWH.out _).mono ?_
      rintro e u9 ⟨rfl, hb⟩
      have B9 : Hid (Below w.heap.size w u9) := hb
      clear hb
      go_wp2_with fail
      go_ret
      exact ⟨rfl, B9.out⟩
    · have d1 : decide (a0 < 1) = false := by simp; omega
      have d2 : decide (1000 < a0) = true := by simp; omega
      have NW : Hid (∀ W : World, Calls Try.prog 8 #[.int .i64 a0] W fun e w' => e = .returned (.tuple #[.pointer none, .int .i64 1]) ∧ w' = W) := fun W => new_no a0 q0 W
      go_enter Try.func3, Try.ntmps3
      go_wp2_with fail
      refine (NW.out _).mono ?_
      rintro e u ⟨rfl, hu⟩
      have hu2 := hu.symm
      subst hu2
      clear hu
      go_wp2_with fail
      refine (AWH.out _).mono ?_
      rintro e u9 ⟨rfl, hb⟩
      have B9 : Hid (Below w.heap.size w u9) := hb
      clear hb
      go_wp2_with fail
      go_ret
      exact ⟨rfl, B9.out⟩
  have d1 : decide (a0 < 1) = false := by simp; omega
  have d2 : decide (1000 < a0) = false := by simp; omega
  have NW : Hid (Calls Try.prog 8 #[.int .i64 a0] w fun e w' => e = .returned (.tuple #[.pointer (some ⟨w.heap.size, 0, none⟩), .int .i64 0]) ∧ Own w w' w.heap.size ⟨a0, 0, []⟩) := new_ok a0 (by omega) (by omega) w
  have AD : Hid (∀ (S : Qu), Good S → ∀ p : Int, ∀ W : World, IsQ W w.heap.size S → Calls Try.prog 10 #[.pointer (some ⟨w.heap.size, 0, none⟩), .int .i64 p] W fun e w' => e = .returned (.int .i64 (addE S p)) ∧ IsQ w' w.heap.size (addS S p) ∧ Kb w.heap.size W w') := fun S g p W h => add_any _ S p g W h
  have RM : Hid (∀ (S : Qu), Good S → ∀ p : Int, ∀ W : World, IsQ W w.heap.size S → Calls Try.prog 12 #[.pointer (some ⟨w.heap.size, 0, none⟩), .int .i64 p] W fun e w' => e = .returned (.int .i64 (remE S p)) ∧ IsQ w' w.heap.size (remS S p) ∧ Kb w.heap.size W w') := fun S g p W h => rem_any _ S p g W h
  have YL : Hid (∀ (S : Qu), ∀ W : World, IsQ W w.heap.size S → Calls Try.prog 14 #[.pointer (some ⟨w.heap.size, 0, none⟩)] W fun e w' => e = .returned (.tuple #[]) ∧ IsQ w' w.heap.size (yldS S) ∧ Kb w.heap.size W w') := fun S W h => yld_any _ S W h
  have TC : Hid (∀ (S : Qu), Good S → ∀ W : World, IsQ W w.heap.size S → Calls Try.prog 17 #[.pointer (some ⟨w.heap.size, 0, none⟩)] W fun e w' => e = .returned (.bool (tckB S)) ∧ IsQ w' w.heap.size (tckS S) ∧ Kb w.heap.size W w') := fun S g W h => tck_any _ S g W h
  have NO : Hid (∀ (S : Qu), ∀ W : World, IsQ W w.heap.size S → Calls Try.prog 18 #[.pointer (some ⟨w.heap.size, 0, none⟩)] W fun e w' => e = .returned (.tuple #[.int .i64 (nowV S.L), .bool (nowB S.L)]) ∧ Below W.heap.size W w') := fun S W h => now_any _ S W h
  have TI : Hid (∀ (S : Qu), ∀ W : World, IsQ W w.heap.size S → Calls Try.prog 21 #[.pointer (some ⟨w.heap.size, 0, none⟩)] W fun e w' => e = .returned (.int .i64 S.t) ∧ w' = W) := fun S W h => ticks_any _ S W h
  have LI : Hid (∀ (S : Qu), ∀ W : World, IsQ W w.heap.size S → Calls Try.prog 20 #[.pointer (some ⟨w.heap.size, 0, none⟩)] W fun e w' => (∃ p c, e = .returned (.slice p S.L.length c) ∧ IsI w' p S.L W.heap.size) ∧ Below W.heap.size W w') := fun S W h => line_any _ S W h
  have RAD : Hid (∀ (S : Qu), Good S → ∀ (x : Int) (p : Option Addr) (c : Nat) (base : Nat) (W : World), base ≤ W.heap.size → IsI W p S.L base → Calls Try.prog 11 #[.agg #[.int .i64 S.q, .int .i64 S.t, .slice p S.L.length c], .int .i64 x] W fun e w' => (∃ p' c', e = .returned (.tuple #[.agg #[.int .i64 (addS S x).q, .int .i64 (addS S x).t, .slice p' (addS S x).L.length c'], .int .i64 (addE S x)]) ∧ IsI w' p' (addS S x).L base) ∧ Below W.heap.size W w') := fun S g x p c base W hb hI => radd_any S x g p c base W hb hI
  have RRM : Hid (∀ (S : Qu), Good S → ∀ (x : Int) (p : Option Addr) (c : Nat) (base : Nat) (W : World), base ≤ W.heap.size → IsI W p S.L base → Calls Try.prog 13 #[.agg #[.int .i64 S.q, .int .i64 S.t, .slice p S.L.length c], .int .i64 x] W fun e w' => (∃ p' c', e = .returned (.tuple #[.agg #[.int .i64 (remS S x).q, .int .i64 (remS S x).t, .slice p' (remS S x).L.length c'], .int .i64 (remE S x)]) ∧ IsI w' p' (remS S x).L base) ∧ Below W.heap.size W w') := fun S g x p c base W hb hI => rrem_any S x g p c base W hb hI
  have RYL : Hid (∀ (S : Qu), Good S → ∀ (p : Option Addr) (c : Nat) (base : Nat) (W : World), base ≤ W.heap.size → IsI W p S.L base → Calls Try.prog 15 #[.agg #[.int .i64 S.q, .int .i64 S.t, .slice p S.L.length c]] W fun e w' => (∃ p' c', e = .returned (.agg #[.int .i64 (yldS S).q, .int .i64 (yldS S).t, .slice p' (yldS S).L.length c']) ∧ IsI w' p' (yldS S).L base) ∧ Below W.heap.size W w') := fun S g p c base W hb hI => ryld_any S g p c base W hb hI
  have RTC : Hid (∀ (S : Qu), Good S → ∀ (p : Option Addr) (c : Nat) (base : Nat) (W : World), base ≤ W.heap.size → IsI W p S.L base → Calls Try.prog 16 #[.agg #[.int .i64 S.q, .int .i64 S.t, .slice p S.L.length c]] W fun e w' => (∃ p' c', e = .returned (.tuple #[.agg #[.int .i64 (tckS S).q, .int .i64 (tckS S).t, .slice p' (tckS S).L.length c'], .bool (tckB S)]) ∧ IsI w' p' (tckS S).L base) ∧ Below W.heap.size W w') := fun S g p c base W hb hI => rtck_any S g p c base W hb hI
  have SA : Hid (∀ (p1 p2 : Option Addr) (c1 c2 : Nat) (L : List Int) (b1 b2 : Nat), L.length ≤ 1000 → ∀ W : World, IsI W p1 L b1 → IsI W p2 L b2 → Calls Try.prog 19 #[.slice p1 L.length c1, .slice p2 L.length c2] W fun e w' => e = .returned (.bool true) ∧ Below W.heap.size W w') := fun p1 p2 c1 c2 L b1 b2 hn W h1 h2 => (same_any p1 p2 c1 c2 L L b1 b2 hn W h1 h2).mono (fun e w' h => ⟨by rw [h.1]; simp, h.2⟩)
  have mm : (n1 : Int) ≤ 9223372036854775807 := by have : maxLen ≤ 9223372036854775807 := by decide +kernel
                                                   omega
  have HA : Hid (IsActs w p1 n1 A1) := H1
  have GF : Hid (Good ⟨a0, 0, []⟩) := fresh_good a0 (by omega) (by omega)
  clear q0 H1
  go_enter Try.func3, Try.ntmps3
  go_wp2_with fail
  refine NW.out.mono ?_
  rintro e u0 ⟨rfl, h0⟩
  have M0 : Hid (Own w u0 w.heap.size ⟨a0, 0, []⟩) := h0
  clear h0 NW
  go_wp2_with fail
  refine (AWH.out _).mono ?_
  rintro e u1 ⟨rfl, hb⟩
  have M1 : Hid (Own w u1 w.heap.size ⟨a0, 0, []⟩) := M0.out.grow hb
  have lx : w.heap.size < u1.heap.size := blk_lt M1.out.1.blk
  clear hb M0
  have M2 : Hid (Own w (u1.alloc (.cells #[.int .i64 a0, .int .i64 0, .slice none 0 0] 30)) w.heap.size ⟨a0, 0, []⟩) := M1.out.grow (Go.Joins.below_alloc1 _ _)
  have X2 : Hid (Blk (u1.alloc (.cells #[.int .i64 a0, .int .i64 0, .slice none 0 0] 30)) u1.heap.size [.int .i64 a0, .int .i64 0, .slice none 0 0] 30) := Blk.made u1 _ _
  have I2 : Hid (IsI (u1.alloc (.cells #[.int .i64 a0, .int .i64 0, .slice none 0 0] 30)) none [] (u1.heap.size + 1)) := fun i hi => absurd hi (by simp)
  clear M1
  go_wp2_with fail
  generalize u1.heap.size = xb at lx X2 I2 ⊢
  go_loopw [8] (fun v W => ∃ (k : Nat) (S : Qu) (p : Option Addr) (c : Nat), k ≤ n1 ∧ k ≤ 100 ∧ v = .int .i64 k ∧ Hid (Good S) ∧ Hid (Own w W w.heap.size S) ∧ Hid (Blk W xb [.int .i64 (S).q, .int .i64 (S).t, .slice p (S).L.length c] 30) ∧ Hid (IsI W p S.L (xb + 1))) (fun v _ => 101 - (intOf v).toNat)
  case atStart => exact ⟨0, ⟨a0, 0, []⟩, none, 0, by omega, by omega, rfl, GF, M2, X2, I2⟩
  case round =>
    obtain ⟨k, S, p, c, hk, hk100, rfl, hG, hM, hX, hI⟩ := hrel
    by_cases hlt : k < n1
    rotate_left
    · have hd : decide ((k : Int) < (n1 : Int)) = false := by simp; omega
      have hd3 : ¬ (k : Int) < (n1 : Int) := by omega
      go_wp2_with fail
      go_ret
      exact ⟨rfl, hM.out.2.1⟩
    by_cases h40 : k < 100
    rotate_left
    · have hd : decide ((k : Int) < (n1 : Int)) = true := by simp; omega
      have hd2 : decide ((k : Int) < 100) = false := by simp; omega
      have hd3 : ¬ (k : Int) < 100 := by omega
      go_wp2_with fail
      go_ret
      exact ⟨rfl, hM.out.2.1⟩
    have hd : decide ((k : Int) < (n1 : Int)) = true := by simp; omega
    have hd2 : decide ((k : Int) < 100) = true := by simp; omega
    obtain ⟨bq, oq, rfl, lq, y0, y1, wf⟩ := HA.out k hlt
    have z0 : wr.cell? ⟨bq, oq + k * 2, none⟩ = some (.int .i64 (A1 k).kind) := (World.cell?_of_block (hM.out.2.1.block bq lq)).trans y0
    have z1 : wr.cell? ⟨bq, oq + k * 2 + 1, none⟩ = some (.int .i64 (A1 k).sp) := (World.cell?_of_block (hM.out.2.1.block bq lq)).trans y1
    have lq2 : bq < wr.heap.size := Nat.lt_of_lt_of_le lq hM.out.2.1.size
    clear y0 y1
    generalize A1 k = ac at z0 z1 wf
    obtain ⟨kd, sp⟩ := ac
    simp only at z0 z1 wf
    have lxw : xb < wr.heap.size := blk_lt hX.out
    have MA : Hid (Own w (wr.alloc (.cells #[.int .i64 kd, .int .i64 sp] 32)) w.heap.size S) := hM.out.grow (Go.Joins.below_alloc1 _ _)
    have XA : Hid (Blk (wr.alloc (.cells #[.int .i64 kd, .int .i64 sp] 32)) xb [.int .i64 (S).q, .int .i64 (S).t, .slice p (S).L.length c] 30) := hX.out.below (Go.Joins.below_alloc1 _ _)
    have IA : Hid (IsI (wr.alloc (.cells #[.int .i64 kd, .int .i64 sp] 32)) p S.L (xb + 1)) := hI.out.below (Go.Joins.below_alloc1 _ _)
    have AA : Hid (Blk (wr.alloc (.cells #[.int .i64 kd, .int .i64 sp] 32)) wr.heap.size [.int .i64 kd, .int .i64 sp] 32) := Blk.made wr _ _
    have ne1 : ¬ xb = w.heap.size := by omega
    have ne2 : ¬ wr.heap.size = w.heap.size := by omega
    have ne3 : ¬ wr.heap.size = xb := by omega
    clear hM hX hI wf
    go_upto_block 2 with fail
    go_cut [10, 11, 12, 13] (fun f g _ _ W => ∃ (S2 : Qu) (p2 : Option Addr) (c2 : Nat) (E : Int), f = .int .i64 E ∧ g = .int .i64 E ∧ Hid (Good S2) ∧ Hid (Both w W xb S2 p2 c2))
    case first =>
      clear hk hk100 hd hd2 z0 z1 LI TI NO SA HA
      by_cases c1 : kd = 1
      · have c1' : (kd == 1) = true := by simp [c1]
        clear c1
        have G2 : Hid (Good (addS S sp)) := hG.out.add sp
        go_wp2_with fail
        refine (AD.out S hG.out sp _ MA.out.1).mono ?_
        rintro e v1 ⟨rfl, h1, h2⟩
        have M1 : Hid (Own w v1 w.heap.size (addS S sp)) := MA.out.next h1 h2
        have X1 : Hid (Blk v1 xb [.int .i64 (S).q, .int .i64 (S).t, .slice p (S).L.length c] 30) := XA.out.kb h2 (by omega)
        have I1 : Hid (IsI v1 p S.L (xb + 1)) := IA.out.kb h2 (by omega)
        have A1' : Hid (Blk v1 wr.heap.size [.int .i64 kd, .int .i64 sp] 32) := AA.out.kb h2 (by omega)
        have aac0 : v1.cell? ⟨wr.heap.size, 0, none⟩ = some (.int .i64 kd) := A1'.out.cell 0
        have aac1 : v1.cell? ⟨wr.heap.size, 1, none⟩ = some (.int .i64 sp) := A1'.out.cell 1
        have la1 : wr.heap.size < v1.heap.size := blk_lt A1'.out
        have lx1 : xb < v1.heap.size := blk_lt X1.out
        clear h1 h2 MA XA IA AA
        have xxc0 : v1.cell? ⟨xb, 0, none⟩ = some (.int .i64 (S).q) := X1.out.cell 0
        have xxc1 : v1.cell? ⟨xb, 1, none⟩ = some (.int .i64 (S).t) := X1.out.cell 1
        have xxc2 : v1.cell? ⟨xb, 2, none⟩ = some (.slice p (S).L.length c) := X1.out.cell 2
        go_wp2_with fail
        refine (RAD.out S hG.out sp p c (xb + 1) _ (by omega) I1.out).mono ?_
        rintro e v2 ⟨⟨p2, c2, rfl, i2⟩, hb⟩
        have M2 : Hid (Own w v2 w.heap.size (addS S sp)) := M1.out.grow hb
        have X2 : Hid (Blk v2 xb [.int .i64 (S).q, .int .i64 (S).t, .slice p (S).L.length c] 30) := X1.out.below hb
        have MM2 : Hid (Both w (((v2.setCell ⟨xb, 0, none⟩ (.int .i64 ((addS S sp)).q)).setCell ⟨xb, 1, none⟩ (.int .i64 ((addS S sp)).t)).setCell ⟨xb, 2, none⟩ (.slice p2 ((addS S sp)).L.length c2)) xb (addS S sp) p2 c2) := ⟨own_put M2.out lx _ _ _, blk_put X2.out _ _ _, isi_put i2 _ _ _⟩
        have lx2 : xb < v2.heap.size := blk_lt X2.out
        clear hb i2 M1 X1 I1 M2
        clear xxc0 xxc1 xxc2
        have yyc0 : v2.cell? ⟨xb, 0, none⟩ = some (.int .i64 (S).q) := X2.out.cell 0
        have yyf0 : v2.frozen? ⟨xb, 0, none⟩ = false := X2.out.free 0
        have yyc1 : v2.cell? ⟨xb, 1, none⟩ = some (.int .i64 (S).t) := X2.out.cell 1
        have yyf1 : v2.frozen? ⟨xb, 1, none⟩ = false := X2.out.free 1
        have yyc2 : v2.cell? ⟨xb, 2, none⟩ = some (.slice p (S).L.length c) := X2.out.cell 2
        have yyf2 : v2.frozen? ⟨xb, 2, none⟩ = false := X2.out.free 2
        go_wp2_with fail
        try go_wp2_with fail
        go_meet
        exact ⟨(addS S sp), p2, c2, addE S sp, rfl, rfl, G2, MM2⟩
      have c1' : (kd == 1) = false := by simp [c1]
      by_cases c2 : kd = 2
      · have c2' : (kd == 2) = true := by simp [c2]
        clear c2
        have G2 : Hid (Good (remS S sp)) := hG.out.rem sp
        go_wp2_with fail
        refine (RM.out S hG.out sp _ MA.out.1).mono ?_
        rintro e v1 ⟨rfl, h1, h2⟩
        have M1 : Hid (Own w v1 w.heap.size (remS S sp)) := MA.out.next h1 h2
        have X1 : Hid (Blk v1 xb [.int .i64 (S).q, .int .i64 (S).t, .slice p (S).L.length c] 30) := XA.out.kb h2 (by omega)
        have I1 : Hid (IsI v1 p S.L (xb + 1)) := IA.out.kb h2 (by omega)
        have A1' : Hid (Blk v1 wr.heap.size [.int .i64 kd, .int .i64 sp] 32) := AA.out.kb h2 (by omega)
        have aac0 : v1.cell? ⟨wr.heap.size, 0, none⟩ = some (.int .i64 kd) := A1'.out.cell 0
        have aac1 : v1.cell? ⟨wr.heap.size, 1, none⟩ = some (.int .i64 sp) := A1'.out.cell 1
        have la1 : wr.heap.size < v1.heap.size := blk_lt A1'.out
        have lx1 : xb < v1.heap.size := blk_lt X1.out
        clear h1 h2 MA XA IA AA
        have xxc0 : v1.cell? ⟨xb, 0, none⟩ = some (.int .i64 (S).q) := X1.out.cell 0
        have xxc1 : v1.cell? ⟨xb, 1, none⟩ = some (.int .i64 (S).t) := X1.out.cell 1
        have xxc2 : v1.cell? ⟨xb, 2, none⟩ = some (.slice p (S).L.length c) := X1.out.cell 2
        go_wp2_with fail
        refine (RRM.out S hG.out sp p c (xb + 1) _ (by omega) I1.out).mono ?_
        rintro e v2 ⟨⟨p2, c2, rfl, i2⟩, hb⟩
        have M2 : Hid (Own w v2 w.heap.size (remS S sp)) := M1.out.grow hb
        have X2 : Hid (Blk v2 xb [.int .i64 (S).q, .int .i64 (S).t, .slice p (S).L.length c] 30) := X1.out.below hb
        have MM2 : Hid (Both w (((v2.setCell ⟨xb, 0, none⟩ (.int .i64 ((remS S sp)).q)).setCell ⟨xb, 1, none⟩ (.int .i64 ((remS S sp)).t)).setCell ⟨xb, 2, none⟩ (.slice p2 ((remS S sp)).L.length c2)) xb (remS S sp) p2 c2) := ⟨own_put M2.out lx _ _ _, blk_put X2.out _ _ _, isi_put i2 _ _ _⟩
        have lx2 : xb < v2.heap.size := blk_lt X2.out
        clear hb i2 M1 X1 I1 M2
        clear xxc0 xxc1 xxc2
        have yyc0 : v2.cell? ⟨xb, 0, none⟩ = some (.int .i64 (S).q) := X2.out.cell 0
        have yyf0 : v2.frozen? ⟨xb, 0, none⟩ = false := X2.out.free 0
        have yyc1 : v2.cell? ⟨xb, 1, none⟩ = some (.int .i64 (S).t) := X2.out.cell 1
        have yyf1 : v2.frozen? ⟨xb, 1, none⟩ = false := X2.out.free 1
        have yyc2 : v2.cell? ⟨xb, 2, none⟩ = some (.slice p (S).L.length c) := X2.out.cell 2
        have yyf2 : v2.frozen? ⟨xb, 2, none⟩ = false := X2.out.free 2
        go_wp2_with fail
        try go_wp2_with fail
        go_meet
        exact ⟨(remS S sp), p2, c2, remE S sp, rfl, rfl, G2, MM2⟩
      have c2' : (kd == 2) = false := by simp [c2]
      by_cases c3 : kd = 3
      · have c3' : (kd == 3) = true := by simp [c3]
        clear c3
        have G2 : Hid (Good (yldS S)) := hG.out.yld
        go_wp2_with fail
        refine (YL.out S _ MA.out.1).mono ?_
        rintro e v1 ⟨rfl, h1, h2⟩
        have M1 : Hid (Own w v1 w.heap.size (yldS S)) := MA.out.next h1 h2
        have X1 : Hid (Blk v1 xb [.int .i64 (S).q, .int .i64 (S).t, .slice p (S).L.length c] 30) := XA.out.kb h2 (by omega)
        have I1 : Hid (IsI v1 p S.L (xb + 1)) := IA.out.kb h2 (by omega)
        have lx1 : xb < v1.heap.size := blk_lt X1.out
        clear h1 h2 MA XA IA AA
        have xxc0 : v1.cell? ⟨xb, 0, none⟩ = some (.int .i64 (S).q) := X1.out.cell 0
        have xxc1 : v1.cell? ⟨xb, 1, none⟩ = some (.int .i64 (S).t) := X1.out.cell 1
        have xxc2 : v1.cell? ⟨xb, 2, none⟩ = some (.slice p (S).L.length c) := X1.out.cell 2
        go_wp2_with fail
        refine (RYL.out S hG.out p c (xb + 1) _ (by omega) I1.out).mono ?_
        rintro e v2 ⟨⟨p2, c2, rfl, i2⟩, hb⟩
        have M2 : Hid (Own w v2 w.heap.size (yldS S)) := M1.out.grow hb
        have X2 : Hid (Blk v2 xb [.int .i64 (S).q, .int .i64 (S).t, .slice p (S).L.length c] 30) := X1.out.below hb
        have MM2 : Hid (Both w (((v2.setCell ⟨xb, 0, none⟩ (.int .i64 ((yldS S)).q)).setCell ⟨xb, 1, none⟩ (.int .i64 ((yldS S)).t)).setCell ⟨xb, 2, none⟩ (.slice p2 ((yldS S)).L.length c2)) xb (yldS S) p2 c2) := ⟨own_put M2.out lx _ _ _, blk_put X2.out _ _ _, isi_put i2 _ _ _⟩
        have lx2 : xb < v2.heap.size := blk_lt X2.out
        clear hb i2 M1 X1 I1 M2
        clear xxc0 xxc1 xxc2
        have yyc0 : v2.cell? ⟨xb, 0, none⟩ = some (.int .i64 (S).q) := X2.out.cell 0
        have yyf0 : v2.frozen? ⟨xb, 0, none⟩ = false := X2.out.free 0
        have yyc1 : v2.cell? ⟨xb, 1, none⟩ = some (.int .i64 (S).t) := X2.out.cell 1
        have yyf1 : v2.frozen? ⟨xb, 1, none⟩ = false := X2.out.free 1
        have yyc2 : v2.cell? ⟨xb, 2, none⟩ = some (.slice p (S).L.length c) := X2.out.cell 2
        have yyf2 : v2.frozen? ⟨xb, 2, none⟩ = false := X2.out.free 2
        go_wp2_with fail
        try go_wp2_with fail
        go_meet
        exact ⟨(yldS S), p2, c2, 0, rfl, rfl, G2, MM2⟩
      have c3' : (kd == 3) = false := by simp [c3]
      by_cases c4 : kd = 4
      · have c4' : (kd == 4) = true := by simp [c4]
        clear c4
        have G2 : Hid (Good (tckS S)) := hG.out.tck
        have RT := RTC.out S hG.out
        have TT := TC.out S hG.out
        generalize tckB S = tb at RT TT
        have RT' : Hid _ := RT
        have TT' : Hid _ := TT
        clear RT TT
        have tbb : (tb != tb) = false := by simp
        have xxc0 : (wr.alloc (.cells #[.int .i64 kd, .int .i64 sp] 32)).cell? ⟨xb, 0, none⟩ = some (.int .i64 (S).q) := XA.out.cell 0
        have xxc1 : (wr.alloc (.cells #[.int .i64 kd, .int .i64 sp] 32)).cell? ⟨xb, 1, none⟩ = some (.int .i64 (S).t) := XA.out.cell 1
        have xxc2 : (wr.alloc (.cells #[.int .i64 kd, .int .i64 sp] 32)).cell? ⟨xb, 2, none⟩ = some (.slice p (S).L.length c) := XA.out.cell 2
        have lW : xb + 1 ≤ (wr.alloc (.cells #[.int .i64 kd, .int .i64 sp] 32)).heap.size := by have := blk_lt XA.out; omega
        go_wp2_with fail
        refine (RT'.out p c (xb + 1) _ lW IA.out).mono ?_
        rintro e v1 ⟨⟨p2, c2, rfl, i2⟩, hb⟩
        have M0 : Hid (Own w v1 w.heap.size S) := MA.out.grow hb
        have X0 : Hid (Blk v1 xb [.int .i64 (S).q, .int .i64 (S).t, .slice p (S).L.length c] 30) := XA.out.below hb
        have lx1 : xb < v1.heap.size := blk_lt X0.out
        have M2 : Hid (Own w ((((v1.setCell ⟨xb, 0, none⟩ (.int .i64 ((tckS S)).q)).setCell ⟨xb, 1, none⟩ (.int .i64 ((tckS S)).t)).setCell ⟨xb, 2, none⟩ (.slice p2 ((tckS S)).L.length c2)).alloc (.cells #[.int .i64 ((tckS S)).q, .int .i64 ((tckS S)).t, .slice p2 ((tckS S)).L.length c2] 30)) w.heap.size S) := (own_put M0.out lx _ _ _).grow (Go.Joins.below_alloc1 _ _)
        have X2 : Hid (Blk ((((v1.setCell ⟨xb, 0, none⟩ (.int .i64 ((tckS S)).q)).setCell ⟨xb, 1, none⟩ (.int .i64 ((tckS S)).t)).setCell ⟨xb, 2, none⟩ (.slice p2 ((tckS S)).L.length c2)).alloc (.cells #[.int .i64 ((tckS S)).q, .int .i64 ((tckS S)).t, .slice p2 ((tckS S)).L.length c2] 30)) xb [.int .i64 ((tckS S)).q, .int .i64 ((tckS S)).t, .slice p2 ((tckS S)).L.length c2] 30) := (blk_put X0.out _ _ _).below (Go.Joins.below_alloc1 _ _)
        have I2 : Hid (IsI ((((v1.setCell ⟨xb, 0, none⟩ (.int .i64 ((tckS S)).q)).setCell ⟨xb, 1, none⟩ (.int .i64 ((tckS S)).t)).setCell ⟨xb, 2, none⟩ (.slice p2 ((tckS S)).L.length c2)).alloc (.cells #[.int .i64 ((tckS S)).q, .int .i64 ((tckS S)).t, .slice p2 ((tckS S)).L.length c2] 30)) p2 (tckS S).L (xb + 1)) := (isi_put i2 _ _ _).below (Go.Joins.below_alloc1 _ _)
        clear hb i2 M0 MA XA IA AA
        clear xxc0 xxc1 xxc2
        have yyc0 : v1.cell? ⟨xb, 0, none⟩ = some (.int .i64 (S).q) := X0.out.cell 0
        have yyf0 : v1.frozen? ⟨xb, 0, none⟩ = false := X0.out.free 0
        have yyc1 : v1.cell? ⟨xb, 1, none⟩ = some (.int .i64 (S).t) := X0.out.cell 1
        have yyf1 : v1.frozen? ⟨xb, 1, none⟩ = false := X0.out.free 1
        have yyc2 : v1.cell? ⟨xb, 2, none⟩ = some (.slice p (S).L.length c) := X0.out.cell 2
        have yyf2 : v1.frozen? ⟨xb, 2, none⟩ = false := X0.out.free 2
        go_wp2_with fail
        refine (TT'.out _ M2.out.1).mono ?_
        rintro e v2 ⟨rfl, h1, h2⟩
        have MM2 : Hid (Both w v2 xb (tckS S) p2 c2) := ⟨M2.out.next h1 h2, X2.out.kb h2 (by omega), I2.out.kb h2 (by omega)⟩
        clear h1 h2 M2 X2 I2
        go_wp2_with fail
        try go_wp2_with fail
        go_meet
        exact ⟨(tckS S), p2, c2, 0, rfl, rfl, G2, MM2⟩
      have c4' : (kd == 4) = false := by simp [c4]
      have G2 : Hid (Good S) := hG
      have MM2 : Hid (Both w (wr.alloc (.cells #[.int .i64 kd, .int .i64 sp] 32)) xb S p c) := ⟨MA.out, XA.out, IA.out⟩
      go_wp2_with fail
      try go_wp2_with fail
      go_meet
      exact ⟨S, p, c, 0, rfl, rfl, G2, MM2⟩
    case rest =>
      clear MA XA IA AA hG AD RM YL TC RAD RRM RYL RTC z0 z1 ne2 ne3 lxw HA
      obtain ⟨S2, p2, c2, E, rfl, rfl, hG, hB⟩ := hcut
      obtain ⟨qs, ts, L⟩ := S2
      have lf : L.length ≤ 16 := hG.out.few
      obtain ⟨n, hn⟩ : ∃ n, n = L.length := ⟨_, rfl⟩
      have Hn : Hid (n = L.length) := hn
      rw [← hn] at lf
      clear hn
      have LI2 : Hid (∀ W : World, IsQ W w.heap.size ⟨qs, ts, L⟩ → Calls Try.prog 20 #[.pointer (some ⟨w.heap.size, 0, none⟩)] W fun e w' => (∃ p c, e = .returned (.slice p n c) ∧ IsI w' p L W.heap.size) ∧ Below W.heap.size W w') := fun W h => by
        rw [Hn.out]; exact LI.out ⟨qs, ts, L⟩ W h
      have TI2 : Hid (∀ W : World, IsQ W w.heap.size ⟨qs, ts, L⟩ → Calls Try.prog 21 #[.pointer (some ⟨w.heap.size, 0, none⟩)] W fun e w' => e = .returned (.int .i64 ts) ∧ w' = W) := fun W h => TI.out ⟨qs, ts, L⟩ W h
      have SA2 : Hid (∀ (p1 p2 : Option Addr) (c1 c2 : Nat) (b1 b2 : Nat) (W : World), IsI W p1 L b1 → IsI W p2 L b2 → Calls Try.prog 19 #[.slice p1 n c1, .slice p2 n c2] W fun e w' => e = .returned (.bool true) ∧ Below W.heap.size W w') := fun p1 p2 c1 c2 b1 b2 W h1 h2 => by
        have q := SA.out p1 p2 c1 c2 L b1 b2 (by have := Hn.out; omega) W h1 h2
        rw [← Hn.out] at q; exact q
      clear LI TI SA
      have EE : (E != E) = false := by simp
      have TS : (ts != ts) = false := by simp
      cases L with
      | nil =>
        have n0 : n = 0 := Hn.out
        subst n0
        have NO2 : Hid (∀ W : World, IsQ W w.heap.size ⟨qs, ts, []⟩ → Calls Try.prog 18 #[.pointer (some ⟨w.heap.size, 0, none⟩)] W fun e w' => e = .returned (.tuple #[.int .i64 0, .bool false]) ∧ Below W.heap.size W w') := fun W h => NO.out ⟨qs, ts, []⟩ W h
        clear NO
        go_wp2_with fail
        refine (NO2.out _ hB.out.1.1).mono ?_
        rintro e u3 ⟨rfl, hb⟩
        have B3 : Hid (Both w u3 xb ⟨qs, ts, []⟩ p2 c2) := both_below hB.out hb
        clear hb hB NO2
        go_upto_region 28 with fail
        have BD : Hid (Both w u3.drew xb ⟨qs, ts, []⟩ p2 c2) := both_drew B3.out
        have KS : ∀ c : World, Both w c xb ⟨qs, ts, []⟩ p2 c2 → Hid (Blk c xb [.int .i64 qs, .int .i64 ts, .slice p2 0 c2] 30) ∧ Hid (IsI c p2 [] (xb + 1)) := fun c h => ⟨by have q := h.2.1; exact q, h.2.2⟩
        have KS' : Hid _ := KS
        clear KS
        refine wp_region_noPanic ?_
        refine wp_region_held_drew (S := fun c => Hid (Blk c xb [.int .i64 qs, .int .i64 ts, .slice p2 0 c2] 30) ∧ Hid (IsI c p2 [] (xb + 1))) (by kernel_rfl) ?_ (fun hHeld => ?_)
        · exact KS'.out _ BD.out
        generalize u3.drew = U at BD hHeld ⊢
        clear B3
        refine wpAnyH_take (i := 0) (oi := ⟨some 113, _, _, _, _, none⟩) (v := ?_) rfl (by kernel_rfl) (by kernel_rfl) (by kernel_rfl) (fun _ _ _ h => h) (Or.inl ⟨by rfl, ?_⟩) (by assumption) ?_
        rotate_left
        · intro w hSw; (try dsimp only at hSw); go_simp; (try with_reducible rfl)
        try simp only [Act.put, List.setIfInBounds_toArray, List.set_cons_zero, List.set_cons_succ]
        refine wpAnyH_take (i := 1) (oi := ⟨some 114, _, _, _, _, none⟩) (v := ?_) rfl (by kernel_rfl) (by kernel_rfl) (by kernel_rfl) (fun _ _ _ h => h) (Or.inl ⟨by rfl, ?_⟩) (by assumption) ?_
        rotate_left
        · intro w hSw; (try dsimp only at hSw); go_simp; (try with_reducible rfl)
        try simp only [Act.put, List.setIfInBounds_toArray, List.set_cons_zero, List.set_cons_succ]
        refine wpAnyH_take (i := 2) (oi := ⟨some 115, _, _, _, _, none⟩) (v := (.bool false)) rfl (by kernel_rfl) (by kernel_rfl) (by kernel_rfl) (fun _ _ _ h => h) (Or.inl ⟨by rfl, ?_⟩) (by assumption) ?_
        · intro w hSw; (try dsimp only at hSw); go_simp; (try simp)
        try simp only [Act.put, List.setIfInBounds_toArray, List.set_cons_zero, List.set_cons_succ]
        refine wpAnyH_take (i := 3) (oi := ⟨some 116, _, _, _, _, none⟩) (v := ?_) rfl (by kernel_rfl) (by kernel_rfl) (by kernel_rfl) (fun _ _ _ h => h) (Or.inl ⟨by rfl, ?_⟩) (by assumption) ?_
        rotate_left
        · intro w hSw; (try dsimp only at hSw); go_simp; (try with_reducible rfl)
        try simp only [Act.put, List.setIfInBounds_toArray, List.set_cons_zero, List.set_cons_succ]
        refine wpAnyH_take (i := 4) (oi := ⟨some 117, _, _, _, _, some (3, false)⟩) (v := ?_) rfl (by kernel_rfl) (by kernel_rfl) (by kernel_rfl) (fun _ _ _ h => h) (Or.inl ⟨by rfl, ?_⟩) (by assumption) ?_
        rotate_left
        · intro w hSw; (try dsimp only at hSw); go_simp; (try with_reducible rfl)
        try simp only [Act.put, List.setIfInBounds_toArray, List.set_cons_zero, List.set_cons_succ]
        refine wpAnyH_take (i := 6) (oi := ⟨some 119, _, _, _, _, some (3, false)⟩) (v := (.pointer (some ⟨xb, 2, none⟩))) rfl (by kernel_rfl) (by kernel_rfl) (by kernel_rfl) (fun _ _ _ h => h) (Or.inl ⟨by rfl, ?_⟩) (by assumption) ?_
        · intro w hSw; (try dsimp only at hSw); go_simp; (try simp)
        try simp only [Act.put, List.setIfInBounds_toArray, List.set_cons_zero, List.set_cons_succ]
        refine wpAnyH_take (i := 7) (oi := ⟨some 120, _, _, _, _, some (3, false)⟩) (v := (.slice p2 0 c2)) rfl (by kernel_rfl) (by kernel_rfl) (by kernel_rfl) (fun _ _ _ h => h) (Or.inl ⟨by rfl, ?_⟩) (by assumption) ?_
        · intro w hSw; (try dsimp only at hSw); have q2 : w.cell? ⟨xb, 2, none⟩ = some (.slice p2 0 c2) := hSw.1.out.cell 2; go_simp; (try simp)
        try simp only [Act.put, List.setIfInBounds_toArray, List.set_cons_zero, List.set_cons_succ]
        refine wpAnyH_ready (rs := [5]) (by kernel_rfl) (by simp) ?_
        refine AllReadyH.cons (o := ⟨some 118, _, _, _, _, some (3, false)⟩) rfl (fun K hK => ?_) AllReadyH.nil
        go_simp
        go_wp2_with (go_at_call 20; refine (LI2.out _ BD.out.1.1).mono ?_; rintro e v1 ⟨⟨p5, c5, rfl, i5⟩, hb⟩)
        have v1B : Hid (Both w v1 xb ⟨qs, ts, []⟩ p2 c2) := both_below BD.out hb
        have I5 : Hid (IsI v1 p5 [] U.heap.size) := i5
        clear hb hHeld BD i5
        refine hK.out _ _ (KS'.out _ v1B.out) (fun hHeld => ?_)
        clear hK K
        try simp only [Act.put, List.setIfInBounds_toArray, List.set_cons_zero, List.set_cons_succ]
        refine wpAnyH_ready (rs := [8]) (by kernel_rfl) (by simp) ?_
        refine AllReadyH.cons (o := ⟨some 121, _, _, _, _, some (3, false)⟩) rfl (fun K hK => ?_) AllReadyH.nil
        go_simp
        go_wp2_with (go_at_call 19; refine (SA2.out p5 _ c5 c2 _ _ _ I5.out v1B.out.2.2).mono ?_; rintro e v2 ⟨rfl, hb⟩)
        have v2B : Hid (Both w v2 xb ⟨qs, ts, []⟩ p2 c2) := both_below v1B.out hb
        clear hb hHeld v1B I5
        refine hK.out _ _ (KS'.out _ v2B.out) (fun hHeld => ?_)
        clear hK K
        try simp only [Act.put, List.setIfInBounds_toArray, List.set_cons_zero, List.set_cons_succ]
        refine wpAnyH_take (i := 9) (oi := ⟨some 122, _, _, _, _, some (3, false)⟩) (v := (.bool false)) rfl (by kernel_rfl) (by kernel_rfl) (by kernel_rfl) (fun _ _ _ h => h) (Or.inl ⟨by rfl, ?_⟩) (by assumption) ?_
        · intro w hSw; (try dsimp only at hSw); go_simp; (try simp)
        try simp only [Act.put, List.setIfInBounds_toArray, List.set_cons_zero, List.set_cons_succ]
        refine wpAnyH_take (i := 10) (oi := ⟨some 123, _, _, _, _, none⟩) (v := (.bool false)) rfl (by kernel_rfl) (by kernel_rfl) (by kernel_rfl) (fun _ _ _ h => h) (Or.inl ⟨by rfl, ?_⟩) (by assumption) ?_
        · intro w hSw; (try dsimp only at hSw); go_simp; (try simp)
        try simp only [Act.put, List.setIfInBounds_toArray, List.set_cons_zero, List.set_cons_succ]
        refine wpAnyH_take (i := 11) (oi := ⟨some 124, _, _, _, _, none⟩) (v := ?_) rfl (by kernel_rfl) (by kernel_rfl) (by kernel_rfl) (fun _ _ _ h => h) (Or.inl ⟨by rfl, ?_⟩) (by assumption) ?_
        rotate_left
        · intro w hSw; (try dsimp only at hSw); go_simp; (try with_reducible rfl)
        try simp only [Act.put, List.setIfInBounds_toArray, List.set_cons_zero, List.set_cons_succ]
        refine wpAnyH_take (i := 12) (oi := ⟨some 125, _, _, _, _, some (11, false)⟩) (v := ?_) rfl (by kernel_rfl) (by kernel_rfl) (by kernel_rfl) (fun _ _ _ h => h) (Or.inl ⟨by rfl, ?_⟩) (by assumption) ?_
        rotate_left
        · intro w hSw; (try dsimp only at hSw); go_simp; (try with_reducible rfl)
        try simp only [Act.put, List.setIfInBounds_toArray, List.set_cons_zero, List.set_cons_succ]
        refine wpAnyH_take (i := 14) (oi := ⟨some 127, _, _, _, _, some (11, false)⟩) (v := (.pointer (some ⟨xb, 1, none⟩))) rfl (by kernel_rfl) (by kernel_rfl) (by kernel_rfl) (fun _ _ _ h => h) (Or.inl ⟨by rfl, ?_⟩) (by assumption) ?_
        · intro w hSw; (try dsimp only at hSw); go_simp; (try simp)
        try simp only [Act.put, List.setIfInBounds_toArray, List.set_cons_zero, List.set_cons_succ]
        refine wpAnyH_take (i := 15) (oi := ⟨some 128, _, _, _, _, some (11, false)⟩) (v := (.int .i64 ts)) rfl (by kernel_rfl) (by kernel_rfl) (by kernel_rfl) (fun _ _ _ h => h) (Or.inl ⟨by rfl, ?_⟩) (by assumption) ?_
        · intro w hSw; (try dsimp only at hSw); have q1 : w.cell? ⟨xb, 1, none⟩ = some (.int .i64 ts) := hSw.1.out.cell 1; go_simp; (try simp)
        try simp only [Act.put, List.setIfInBounds_toArray, List.set_cons_zero, List.set_cons_succ]
        refine wpAnyH_ready (rs := [13]) (by kernel_rfl) (by simp) ?_
        refine AllReadyH.cons (o := ⟨some 126, _, _, _, _, some (11, false)⟩) rfl (fun K hK => ?_) AllReadyH.nil
        go_simp
        go_wp2_with (go_at_call 21; refine (TI2.out _ v2B.out.1.1).mono ?_; rintro e v3 ⟨rfl, hu⟩)
        clear hHeld
        refine hK.out _ _ (KS'.out _ v2B.out) (fun hHeld => ?_)
        clear hK K
        try simp only [Act.put, List.setIfInBounds_toArray, List.set_cons_zero, List.set_cons_succ]
        refine wpAnyH_take (i := 16) (oi := ⟨some 129, _, _, _, _, some (11, false)⟩) (v := (.bool false)) rfl (by kernel_rfl) (by kernel_rfl) (by kernel_rfl) (fun _ _ _ h => h) (Or.inl ⟨by rfl, ?_⟩) (by assumption) ?_
        · intro w hSw; (try dsimp only at hSw); go_simp; (try simp)
        try simp only [Act.put, List.setIfInBounds_toArray, List.set_cons_zero, List.set_cons_succ]
        refine wpAnyH_take (i := 17) (oi := ⟨some 130, _, _, _, _, none⟩) (v := (.bool false)) rfl (by kernel_rfl) (by kernel_rfl) (by kernel_rfl) (fun _ _ _ h => h) (Or.inl ⟨by rfl, ?_⟩) (by assumption) ?_
        · intro w hSw; (try dsimp only at hSw); go_simp; (try simp)
        try simp only [Act.put, List.setIfInBounds_toArray, List.set_cons_zero, List.set_cons_succ]
        refine wpAnyH_take (i := 18) (oi := ⟨some 131, _, _, _, _, none⟩) (v := ?_) rfl (by kernel_rfl) (by kernel_rfl) (by kernel_rfl) (fun _ _ _ h => h) (Or.inl ⟨by rfl, ?_⟩) (by assumption) ?_
        rotate_left
        · intro w hSw; (try dsimp only at hSw); go_simp; (try with_reducible rfl)
        try simp only [Act.put, List.setIfInBounds_toArray, List.set_cons_zero, List.set_cons_succ]
        refine wpAnyH_take (i := 19) (oi := ⟨some 132, _, _, _, _, some (18, false)⟩) (v := ?_) rfl (by kernel_rfl) (by kernel_rfl) (by kernel_rfl) (fun _ _ _ h => h) (Or.inl ⟨by rfl, ?_⟩) (by assumption) ?_
        rotate_left
        · intro w hSw; (try dsimp only at hSw); go_simp; (try with_reducible rfl)
        try simp only [Act.put, List.setIfInBounds_toArray, List.set_cons_zero, List.set_cons_succ]
        refine wpAnyH_take (i := 20) (oi := ⟨some 133, _, _, _, _, some (18, false)⟩) (v := (.pointer (some ⟨xb, 2, none⟩))) rfl (by kernel_rfl) (by kernel_rfl) (by kernel_rfl) (fun _ _ _ h => h) (Or.inl ⟨by rfl, ?_⟩) (by assumption) ?_
        · intro w hSw; (try dsimp only at hSw); go_simp; (try simp)
        try simp only [Act.put, List.setIfInBounds_toArray, List.set_cons_zero, List.set_cons_succ]
        refine wpAnyH_take (i := 21) (oi := ⟨some 134, _, _, _, _, some (18, false)⟩) (v := (.slice p2 0 c2)) rfl (by kernel_rfl) (by kernel_rfl) (by kernel_rfl) (fun _ _ _ h => h) (Or.inl ⟨by rfl, ?_⟩) (by assumption) ?_
        · intro w hSw; (try dsimp only at hSw); have q2 : w.cell? ⟨xb, 2, none⟩ = some (.slice p2 0 c2) := hSw.1.out.cell 2; go_simp; (try simp)
        try simp only [Act.put, List.setIfInBounds_toArray, List.set_cons_zero, List.set_cons_succ]
        refine wpAnyH_take (i := 22) (oi := ⟨some 135, _, _, _, _, some (18, false)⟩) (v := (.int .i64 0)) rfl (by kernel_rfl) (by kernel_rfl) (by kernel_rfl) (fun _ _ _ h => h) (Or.inl ⟨by rfl, ?_⟩) (by assumption) ?_
        · intro w hSw; (try dsimp only at hSw); go_simp; (try simp)
        try simp only [Act.put, List.setIfInBounds_toArray, List.set_cons_zero, List.set_cons_succ]
        refine wpAnyH_take (i := 23) (oi := ⟨some 136, _, _, _, _, some (18, false)⟩) (v := (.bool false)) rfl (by kernel_rfl) (by kernel_rfl) (by kernel_rfl) (fun _ _ _ h => h) (Or.inl ⟨by rfl, ?_⟩) (by assumption) ?_
        · intro w hSw; (try dsimp only at hSw); go_simp; (try simp)
        try simp only [Act.put, List.setIfInBounds_toArray, List.set_cons_zero, List.set_cons_succ]
        refine wpAnyH_take (i := 24) (oi := ⟨some 137, _, _, _, _, some (18, false)⟩) (v := (.bool false)) rfl (by kernel_rfl) (by kernel_rfl) (by kernel_rfl) (fun _ _ _ h => h) (Or.inl ⟨by rfl, ?_⟩) (by assumption) ?_
        · intro w hSw; (try dsimp only at hSw); go_simp; (try simp)
        try simp only [Act.put, List.setIfInBounds_toArray, List.set_cons_zero, List.set_cons_succ]
        refine wpAnyH_take (i := 25) (oi := ⟨some 138, _, _, _, _, none⟩) (v := (.bool false)) rfl (by kernel_rfl) (by kernel_rfl) (by kernel_rfl) (fun _ _ _ h => h) (Or.inl ⟨by rfl, ?_⟩) (by assumption) ?_
        · intro w hSw; (try dsimp only at hSw); go_simp; (try simp)
        try simp only [Act.put, List.setIfInBounds_toArray, List.set_cons_zero, List.set_cons_succ]
        refine wpAnyH_take (i := 26) (oi := ⟨some 139, _, _, _, _, none⟩) (v := ?_) rfl (by kernel_rfl) (by kernel_rfl) (by kernel_rfl) (fun _ _ _ h => h) (Or.inl ⟨by rfl, ?_⟩) (by assumption) ?_
        rotate_left
        · intro w hSw; (try dsimp only at hSw); go_simp; (try with_reducible rfl)
        try simp only [Act.put, List.setIfInBounds_toArray, List.set_cons_zero, List.set_cons_succ]
        refine wpAnyH_take (i := 27) (oi := ⟨some 140, _, _, _, _, some (26, false)⟩) (v := ?_) rfl (by kernel_rfl) (by kernel_rfl) (by kernel_rfl) (fun _ _ _ h => h) (Or.inl ⟨by rfl, ?_⟩) (by assumption) ?_
        rotate_left
        · intro w hSw; (try dsimp only at hSw); go_simp; (try with_reducible rfl)
        try simp only [Act.put, List.setIfInBounds_toArray, List.set_cons_zero, List.set_cons_succ]
        refine wpAnyH_take (i := 28) (oi := ⟨some 141, _, _, _, _, some (26, false)⟩) (v := ?_) rfl (by kernel_rfl) (by kernel_rfl) (by kernel_rfl) (fun _ _ _ h => h) (Or.inl ⟨by rfl, ?_⟩) (by assumption) ?_
        rotate_left
        · intro w hSw; (try dsimp only at hSw); go_simp; (try with_reducible rfl)
        try simp only [Act.put, List.setIfInBounds_toArray, List.set_cons_zero, List.set_cons_succ]
        refine wpAnyH_take (i := 29) (oi := ⟨some 142, _, _, _, _, some (28, true)⟩) (v := undef) rfl (by kernel_rfl) (by kernel_rfl) (by kernel_rfl) (fun _ _ _ h => h) (Or.inr ⟨by rfl, rfl⟩) (by assumption) ?_
        try simp only [Act.put, List.setIfInBounds_toArray, List.set_cons_zero, List.set_cons_succ]
        refine wpAnyH_take (i := 30) (oi := ⟨some 143, _, _, _, _, some (28, true)⟩) (v := undef) rfl (by kernel_rfl) (by kernel_rfl) (by kernel_rfl) (fun _ _ _ h => h) (Or.inr ⟨by rfl, rfl⟩) (by assumption) ?_
        try simp only [Act.put, List.setIfInBounds_toArray, List.set_cons_zero, List.set_cons_succ]
        refine wpAnyH_take (i := 31) (oi := ⟨some 144, _, _, _, _, some (28, true)⟩) (v := undef) rfl (by kernel_rfl) (by kernel_rfl) (by kernel_rfl) (fun _ _ _ h => h) (Or.inr ⟨by rfl, rfl⟩) (by assumption) ?_
        try simp only [Act.put, List.setIfInBounds_toArray, List.set_cons_zero, List.set_cons_succ]
        refine wpAnyH_take (i := 32) (oi := ⟨some 145, _, _, _, _, some (28, true)⟩) (v := undef) rfl (by kernel_rfl) (by kernel_rfl) (by kernel_rfl) (fun _ _ _ h => h) (Or.inr ⟨by rfl, rfl⟩) (by assumption) ?_
        try simp only [Act.put, List.setIfInBounds_toArray, List.set_cons_zero, List.set_cons_succ]
        refine wpAnyH_take (i := 33) (oi := ⟨some 146, _, _, _, _, some (28, true)⟩) (v := undef) rfl (by kernel_rfl) (by kernel_rfl) (by kernel_rfl) (fun _ _ _ h => h) (Or.inr ⟨by rfl, rfl⟩) (by assumption) ?_
        try simp only [Act.put, List.setIfInBounds_toArray, List.set_cons_zero, List.set_cons_succ]
        refine wpAnyH_take (i := 34) (oi := ⟨some 147, _, _, _, _, some (28, true)⟩) (v := undef) rfl (by kernel_rfl) (by kernel_rfl) (by kernel_rfl) (fun _ _ _ h => h) (Or.inr ⟨by rfl, rfl⟩) (by assumption) ?_
        try simp only [Act.put, List.setIfInBounds_toArray, List.set_cons_zero, List.set_cons_succ]
        refine wpAnyH_take (i := 35) (oi := ⟨some 148, _, _, _, _, some (26, false)⟩) (v := (.bool false)) rfl (by kernel_rfl) (by kernel_rfl) (by kernel_rfl) (fun _ _ _ h => h) (Or.inl ⟨by rfl, ?_⟩) (by assumption) ?_
        · intro w hSw; (try dsimp only at hSw); go_simp; (try simp)
        try simp only [Act.put, List.setIfInBounds_toArray, List.set_cons_zero, List.set_cons_succ]
        refine wpAnyH_take (i := 36) (oi := ⟨some 149, _, _, _, _, none⟩) (v := (.bool false)) rfl (by kernel_rfl) (by kernel_rfl) (by kernel_rfl) (fun _ _ _ h => h) (Or.inl ⟨by rfl, ?_⟩) (by assumption) ?_
        · intro w hSw; (try dsimp only at hSw); go_simp; (try simp)
        try simp only [Act.put, List.setIfInBounds_toArray, List.set_cons_zero, List.set_cons_succ]
        refine wpAnyH_take (i := 37) (oi := ⟨some 150, _, _, _, _, none⟩) (v := ?_) rfl (by kernel_rfl) (by kernel_rfl) (by kernel_rfl) (fun _ _ _ h => h) (Or.inl ⟨by rfl, ?_⟩) (by assumption) ?_
        rotate_left
        · intro w hSw; (try dsimp only at hSw); go_simp; (try with_reducible rfl)
        try simp only [Act.put, List.setIfInBounds_toArray, List.set_cons_zero, List.set_cons_succ]
        refine wpAnyH_take (i := 38) (oi := ⟨some 151, _, _, _, _, some (37, false)⟩) (v := ?_) rfl (by kernel_rfl) (by kernel_rfl) (by kernel_rfl) (fun _ _ _ h => h) (Or.inl ⟨by rfl, ?_⟩) (by assumption) ?_
        rotate_left
        · intro w hSw; (try dsimp only at hSw); go_simp; (try with_reducible rfl)
        try simp only [Act.put, List.setIfInBounds_toArray, List.set_cons_zero, List.set_cons_succ]
        refine wpAnyH_take (i := 39) (oi := ⟨some 152, _, _, _, _, some (37, false)⟩) (v := (.bool true)) rfl (by kernel_rfl) (by kernel_rfl) (by kernel_rfl) (fun _ _ _ h => h) (Or.inl ⟨by rfl, ?_⟩) (by assumption) ?_
        · intro w hSw; (try dsimp only at hSw); go_simp; (try simp)
        try simp only [Act.put, List.setIfInBounds_toArray, List.set_cons_zero, List.set_cons_succ]
        refine wpAnyH_take (i := 40) (oi := ⟨some 153, _, _, _, _, some (37, false)⟩) (v := ?_) rfl (by kernel_rfl) (by kernel_rfl) (by kernel_rfl) (fun _ _ _ h => h) (Or.inl ⟨by rfl, ?_⟩) (by assumption) ?_
        rotate_left
        · intro w hSw; (try dsimp only at hSw); go_simp; (try with_reducible rfl)
        try simp only [Act.put, List.setIfInBounds_toArray, List.set_cons_zero, List.set_cons_succ]
        refine wpAnyH_take (i := 41) (oi := ⟨some 154, _, _, _, _, some (40, true)⟩) (v := ?_) rfl (by kernel_rfl) (by kernel_rfl) (by kernel_rfl) (fun _ _ _ h => h) (Or.inl ⟨by rfl, ?_⟩) (by assumption) ?_
        rotate_left
        · intro w hSw; (try dsimp only at hSw); go_simp; (try with_reducible rfl)
        try simp only [Act.put, List.setIfInBounds_toArray, List.set_cons_zero, List.set_cons_succ]
        refine wpAnyH_take (i := 42) (oi := ⟨some 155, _, _, _, _, some (40, true)⟩) (v := (.bool false)) rfl (by kernel_rfl) (by kernel_rfl) (by kernel_rfl) (fun _ _ _ h => h) (Or.inl ⟨by rfl, ?_⟩) (by assumption) ?_
        · intro w hSw; (try dsimp only at hSw); go_simp; (try simp)
        try simp only [Act.put, List.setIfInBounds_toArray, List.set_cons_zero, List.set_cons_succ]
        refine wpAnyH_take (i := 43) (oi := ⟨some 156, _, _, _, _, some (37, false)⟩) (v := (.bool false)) rfl (by kernel_rfl) (by kernel_rfl) (by kernel_rfl) (fun _ _ _ h => h) (Or.inl ⟨by rfl, ?_⟩) (by assumption) ?_
        · intro w hSw; (try dsimp only at hSw); go_simp; (try simp)
        try simp only [Act.put, List.setIfInBounds_toArray, List.set_cons_zero, List.set_cons_succ]
        refine wpAnyH_take (i := 44) (oi := ⟨some 157, _, _, _, _, none⟩) (v := (.bool false)) rfl (by kernel_rfl) (by kernel_rfl) (by kernel_rfl) (fun _ _ _ h => h) (Or.inl ⟨by rfl, ?_⟩) (by assumption) ?_
        · intro w hSw; (try dsimp only at hSw); go_simp; (try simp)
        try simp only [Act.put, List.setIfInBounds_toArray, List.set_cons_zero, List.set_cons_succ]
        clear hHeld
        refine wpAnyH_done (by kernel_rfl) ?_ _
        refine NoPanic.normal ?_
        go_wp2_with fail
        go_roundw
        case rel => exact ⟨k + 1, ⟨qs, ts, []⟩, p2, c2, by omega, by omega, by go_num, hG, v2B.out.1, v2B.out.2.1, v2B.out.2.2⟩
        case measure => simp [intOf]; omega
      | cons y r =>
        have NO2 : Hid (∀ W : World, IsQ W w.heap.size ⟨qs, ts, y :: r⟩ → Calls Try.prog 18 #[.pointer (some ⟨w.heap.size, 0, none⟩)] W fun e w' => e = .returned (.tuple #[.int .i64 y, .bool true]) ∧ Below W.heap.size W w') := fun W h => NO.out ⟨qs, ts, y :: r⟩ W h
        clear NO
        have np : 0 < n := by have := Hn.out; simp at this; omega
        have np1 : decide ((0 : Int) < (n : Int)) = true := by simp; omega
        have np2 : decide (0 < n) = true := by simp; omega
        have yy : (y != y) = false := by simp
        obtain ⟨g, hg, _⟩ := hB.out.2.2 0 (by simp)
        subst hg
        go_wp2_with fail
        refine (NO2.out _ hB.out.1.1).mono ?_
        rintro e u3 ⟨rfl, hb⟩
        have B3 : Hid (Both w u3 xb ⟨qs, ts, (y :: r)⟩ (some ⟨g, 0, none⟩) c2) := both_below hB.out hb
        clear hb hB NO2
        go_upto_region 28 with fail
        have BD : Hid (Both w u3.drew xb ⟨qs, ts, (y :: r)⟩ (some ⟨g, 0, none⟩) c2) := both_drew B3.out
        have KS : ∀ c : World, Both w c xb ⟨qs, ts, (y :: r)⟩ (some ⟨g, 0, none⟩) c2 → Hid (Blk c xb [.int .i64 qs, .int .i64 ts, .slice (some ⟨g, 0, none⟩) n c2] 30) ∧ Hid (IsI c (some ⟨g, 0, none⟩) (y :: r) (xb + 1)) := fun c h => ⟨by have q := h.2.1; simp only at q; rw [← Hn.out] at q; exact q, h.2.2⟩
        have KS' : Hid _ := KS
        clear KS
        refine wp_region_noPanic ?_
        refine wp_region_held_drew (S := fun c => Hid (Blk c xb [.int .i64 qs, .int .i64 ts, .slice (some ⟨g, 0, none⟩) n c2] 30) ∧ Hid (IsI c (some ⟨g, 0, none⟩) (y :: r) (xb + 1))) (by kernel_rfl) ?_ (fun hHeld => ?_)
        · exact KS'.out _ BD.out
        generalize u3.drew = U at BD hHeld ⊢
        clear B3
        refine wpAnyH_take (i := 0) (oi := ⟨some 113, _, _, _, _, none⟩) (v := ?_) rfl (by kernel_rfl) (by kernel_rfl) (by kernel_rfl) (fun _ _ _ h => h) (Or.inl ⟨by rfl, ?_⟩) (by assumption) ?_
        rotate_left
        · intro w hSw; (try dsimp only at hSw); go_simp; (try with_reducible rfl)
        try simp only [Act.put, List.setIfInBounds_toArray, List.set_cons_zero, List.set_cons_succ]
        refine wpAnyH_take (i := 1) (oi := ⟨some 114, _, _, _, _, none⟩) (v := ?_) rfl (by kernel_rfl) (by kernel_rfl) (by kernel_rfl) (fun _ _ _ h => h) (Or.inl ⟨by rfl, ?_⟩) (by assumption) ?_
        rotate_left
        · intro w hSw; (try dsimp only at hSw); go_simp; (try with_reducible rfl)
        try simp only [Act.put, List.setIfInBounds_toArray, List.set_cons_zero, List.set_cons_succ]
        refine wpAnyH_take (i := 2) (oi := ⟨some 115, _, _, _, _, none⟩) (v := (.bool false)) rfl (by kernel_rfl) (by kernel_rfl) (by kernel_rfl) (fun _ _ _ h => h) (Or.inl ⟨by rfl, ?_⟩) (by assumption) ?_
        · intro w hSw; (try dsimp only at hSw); go_simp; (try simp)
        try simp only [Act.put, List.setIfInBounds_toArray, List.set_cons_zero, List.set_cons_succ]
        refine wpAnyH_take (i := 3) (oi := ⟨some 116, _, _, _, _, none⟩) (v := ?_) rfl (by kernel_rfl) (by kernel_rfl) (by kernel_rfl) (fun _ _ _ h => h) (Or.inl ⟨by rfl, ?_⟩) (by assumption) ?_
        rotate_left
        · intro w hSw; (try dsimp only at hSw); go_simp; (try with_reducible rfl)
        try simp only [Act.put, List.setIfInBounds_toArray, List.set_cons_zero, List.set_cons_succ]
        refine wpAnyH_take (i := 4) (oi := ⟨some 117, _, _, _, _, some (3, false)⟩) (v := ?_) rfl (by kernel_rfl) (by kernel_rfl) (by kernel_rfl) (fun _ _ _ h => h) (Or.inl ⟨by rfl, ?_⟩) (by assumption) ?_
        rotate_left
        · intro w hSw; (try dsimp only at hSw); go_simp; (try with_reducible rfl)
        try simp only [Act.put, List.setIfInBounds_toArray, List.set_cons_zero, List.set_cons_succ]
        refine wpAnyH_take (i := 6) (oi := ⟨some 119, _, _, _, _, some (3, false)⟩) (v := (.pointer (some ⟨xb, 2, none⟩))) rfl (by kernel_rfl) (by kernel_rfl) (by kernel_rfl) (fun _ _ _ h => h) (Or.inl ⟨by rfl, ?_⟩) (by assumption) ?_
        · intro w hSw; (try dsimp only at hSw); go_simp; (try simp)
        try simp only [Act.put, List.setIfInBounds_toArray, List.set_cons_zero, List.set_cons_succ]
        refine wpAnyH_take (i := 7) (oi := ⟨some 120, _, _, _, _, some (3, false)⟩) (v := (.slice (some ⟨g, 0, none⟩) n c2)) rfl (by kernel_rfl) (by kernel_rfl) (by kernel_rfl) (fun _ _ _ h => h) (Or.inl ⟨by rfl, ?_⟩) (by assumption) ?_
        · intro w hSw; (try dsimp only at hSw); have q2 : w.cell? ⟨xb, 2, none⟩ = some (.slice (some ⟨g, 0, none⟩) n c2) := hSw.1.out.cell 2; go_simp; (try simp)
        try simp only [Act.put, List.setIfInBounds_toArray, List.set_cons_zero, List.set_cons_succ]
        refine wpAnyH_ready (rs := [5]) (by kernel_rfl) (by simp) ?_
        refine AllReadyH.cons (o := ⟨some 118, _, _, _, _, some (3, false)⟩) rfl (fun K hK => ?_) AllReadyH.nil
        go_simp
        go_wp2_with (go_at_call 20; refine (LI2.out _ BD.out.1.1).mono ?_; rintro e v1 ⟨⟨p5, c5, rfl, i5⟩, hb⟩)
        have v1B : Hid (Both w v1 xb ⟨qs, ts, (y :: r)⟩ (some ⟨g, 0, none⟩) c2) := both_below BD.out hb
        have I5 : Hid (IsI v1 p5 (y :: r) U.heap.size) := i5
        clear hb hHeld BD i5
        refine hK.out _ _ (KS'.out _ v1B.out) (fun hHeld => ?_)
        clear hK K
        try simp only [Act.put, List.setIfInBounds_toArray, List.set_cons_zero, List.set_cons_succ]
        refine wpAnyH_ready (rs := [8]) (by kernel_rfl) (by simp) ?_
        refine AllReadyH.cons (o := ⟨some 121, _, _, _, _, some (3, false)⟩) rfl (fun K hK => ?_) AllReadyH.nil
        go_simp
        go_wp2_with (go_at_call 19; refine (SA2.out p5 _ c5 c2 _ _ _ I5.out v1B.out.2.2).mono ?_; rintro e v2 ⟨rfl, hb⟩)
        have v2B : Hid (Both w v2 xb ⟨qs, ts, (y :: r)⟩ (some ⟨g, 0, none⟩) c2) := both_below v1B.out hb
        clear hb hHeld v1B I5
        refine hK.out _ _ (KS'.out _ v2B.out) (fun hHeld => ?_)
        clear hK K
        try simp only [Act.put, List.setIfInBounds_toArray, List.set_cons_zero, List.set_cons_succ]
        refine wpAnyH_take (i := 9) (oi := ⟨some 122, _, _, _, _, some (3, false)⟩) (v := (.bool false)) rfl (by kernel_rfl) (by kernel_rfl) (by kernel_rfl) (fun _ _ _ h => h) (Or.inl ⟨by rfl, ?_⟩) (by assumption) ?_
        · intro w hSw; (try dsimp only at hSw); go_simp; (try simp)
        try simp only [Act.put, List.setIfInBounds_toArray, List.set_cons_zero, List.set_cons_succ]
        refine wpAnyH_take (i := 10) (oi := ⟨some 123, _, _, _, _, none⟩) (v := (.bool false)) rfl (by kernel_rfl) (by kernel_rfl) (by kernel_rfl) (fun _ _ _ h => h) (Or.inl ⟨by rfl, ?_⟩) (by assumption) ?_
        · intro w hSw; (try dsimp only at hSw); go_simp; (try simp)
        try simp only [Act.put, List.setIfInBounds_toArray, List.set_cons_zero, List.set_cons_succ]
        refine wpAnyH_take (i := 11) (oi := ⟨some 124, _, _, _, _, none⟩) (v := ?_) rfl (by kernel_rfl) (by kernel_rfl) (by kernel_rfl) (fun _ _ _ h => h) (Or.inl ⟨by rfl, ?_⟩) (by assumption) ?_
        rotate_left
        · intro w hSw; (try dsimp only at hSw); go_simp; (try with_reducible rfl)
        try simp only [Act.put, List.setIfInBounds_toArray, List.set_cons_zero, List.set_cons_succ]
        refine wpAnyH_take (i := 12) (oi := ⟨some 125, _, _, _, _, some (11, false)⟩) (v := ?_) rfl (by kernel_rfl) (by kernel_rfl) (by kernel_rfl) (fun _ _ _ h => h) (Or.inl ⟨by rfl, ?_⟩) (by assumption) ?_
        rotate_left
        · intro w hSw; (try dsimp only at hSw); go_simp; (try with_reducible rfl)
        try simp only [Act.put, List.setIfInBounds_toArray, List.set_cons_zero, List.set_cons_succ]
        refine wpAnyH_take (i := 14) (oi := ⟨some 127, _, _, _, _, some (11, false)⟩) (v := (.pointer (some ⟨xb, 1, none⟩))) rfl (by kernel_rfl) (by kernel_rfl) (by kernel_rfl) (fun _ _ _ h => h) (Or.inl ⟨by rfl, ?_⟩) (by assumption) ?_
        · intro w hSw; (try dsimp only at hSw); go_simp; (try simp)
        try simp only [Act.put, List.setIfInBounds_toArray, List.set_cons_zero, List.set_cons_succ]
        refine wpAnyH_take (i := 15) (oi := ⟨some 128, _, _, _, _, some (11, false)⟩) (v := (.int .i64 ts)) rfl (by kernel_rfl) (by kernel_rfl) (by kernel_rfl) (fun _ _ _ h => h) (Or.inl ⟨by rfl, ?_⟩) (by assumption) ?_
        · intro w hSw; (try dsimp only at hSw); have q1 : w.cell? ⟨xb, 1, none⟩ = some (.int .i64 ts) := hSw.1.out.cell 1; go_simp; (try simp)
        try simp only [Act.put, List.setIfInBounds_toArray, List.set_cons_zero, List.set_cons_succ]
        refine wpAnyH_ready (rs := [13]) (by kernel_rfl) (by simp) ?_
        refine AllReadyH.cons (o := ⟨some 126, _, _, _, _, some (11, false)⟩) rfl (fun K hK => ?_) AllReadyH.nil
        go_simp
        go_wp2_with (go_at_call 21; refine (TI2.out _ v2B.out.1.1).mono ?_; rintro e v3 ⟨rfl, hu⟩)
        clear hHeld
        refine hK.out _ _ (KS'.out _ v2B.out) (fun hHeld => ?_)
        clear hK K
        try simp only [Act.put, List.setIfInBounds_toArray, List.set_cons_zero, List.set_cons_succ]
        refine wpAnyH_take (i := 16) (oi := ⟨some 129, _, _, _, _, some (11, false)⟩) (v := (.bool false)) rfl (by kernel_rfl) (by kernel_rfl) (by kernel_rfl) (fun _ _ _ h => h) (Or.inl ⟨by rfl, ?_⟩) (by assumption) ?_
        · intro w hSw; (try dsimp only at hSw); go_simp; (try simp)
        try simp only [Act.put, List.setIfInBounds_toArray, List.set_cons_zero, List.set_cons_succ]
        refine wpAnyH_take (i := 17) (oi := ⟨some 130, _, _, _, _, none⟩) (v := (.bool false)) rfl (by kernel_rfl) (by kernel_rfl) (by kernel_rfl) (fun _ _ _ h => h) (Or.inl ⟨by rfl, ?_⟩) (by assumption) ?_
        · intro w hSw; (try dsimp only at hSw); go_simp; (try simp)
        try simp only [Act.put, List.setIfInBounds_toArray, List.set_cons_zero, List.set_cons_succ]
        refine wpAnyH_take (i := 18) (oi := ⟨some 131, _, _, _, _, none⟩) (v := ?_) rfl (by kernel_rfl) (by kernel_rfl) (by kernel_rfl) (fun _ _ _ h => h) (Or.inl ⟨by rfl, ?_⟩) (by assumption) ?_
        rotate_left
        · intro w hSw; (try dsimp only at hSw); go_simp; (try with_reducible rfl)
        try simp only [Act.put, List.setIfInBounds_toArray, List.set_cons_zero, List.set_cons_succ]
        refine wpAnyH_take (i := 19) (oi := ⟨some 132, _, _, _, _, some (18, false)⟩) (v := ?_) rfl (by kernel_rfl) (by kernel_rfl) (by kernel_rfl) (fun _ _ _ h => h) (Or.inl ⟨by rfl, ?_⟩) (by assumption) ?_
        rotate_left
        · intro w hSw; (try dsimp only at hSw); go_simp; (try with_reducible rfl)
        try simp only [Act.put, List.setIfInBounds_toArray, List.set_cons_zero, List.set_cons_succ]
        refine wpAnyH_take (i := 20) (oi := ⟨some 133, _, _, _, _, some (18, false)⟩) (v := (.pointer (some ⟨xb, 2, none⟩))) rfl (by kernel_rfl) (by kernel_rfl) (by kernel_rfl) (fun _ _ _ h => h) (Or.inl ⟨by rfl, ?_⟩) (by assumption) ?_
        · intro w hSw; (try dsimp only at hSw); go_simp; (try simp)
        try simp only [Act.put, List.setIfInBounds_toArray, List.set_cons_zero, List.set_cons_succ]
        refine wpAnyH_take (i := 21) (oi := ⟨some 134, _, _, _, _, some (18, false)⟩) (v := (.slice (some ⟨g, 0, none⟩) n c2)) rfl (by kernel_rfl) (by kernel_rfl) (by kernel_rfl) (fun _ _ _ h => h) (Or.inl ⟨by rfl, ?_⟩) (by assumption) ?_
        · intro w hSw; (try dsimp only at hSw); have q2 : w.cell? ⟨xb, 2, none⟩ = some (.slice (some ⟨g, 0, none⟩) n c2) := hSw.1.out.cell 2; go_simp; (try simp)
        try simp only [Act.put, List.setIfInBounds_toArray, List.set_cons_zero, List.set_cons_succ]
        refine wpAnyH_take (i := 22) (oi := ⟨some 135, _, _, _, _, some (18, false)⟩) (v := (.int .i64 (n : Int))) rfl (by kernel_rfl) (by kernel_rfl) (by kernel_rfl) (fun _ _ _ h => h) (Or.inl ⟨by rfl, ?_⟩) (by assumption) ?_
        · intro w hSw; (try dsimp only at hSw); go_simp; (try simp)
        try simp only [Act.put, List.setIfInBounds_toArray, List.set_cons_zero, List.set_cons_succ]
        refine wpAnyH_take (i := 23) (oi := ⟨some 136, _, _, _, _, some (18, false)⟩) (v := (.bool true)) rfl (by kernel_rfl) (by kernel_rfl) (by kernel_rfl) (fun _ _ _ h => h) (Or.inl ⟨by rfl, ?_⟩) (by assumption) ?_
        · intro w hSw; (try dsimp only at hSw); have np9 := np; go_simp; (try simp)
        try simp only [Act.put, List.setIfInBounds_toArray, List.set_cons_zero, List.set_cons_succ]
        refine wpAnyH_take (i := 24) (oi := ⟨some 137, _, _, _, _, some (18, false)⟩) (v := (.bool false)) rfl (by kernel_rfl) (by kernel_rfl) (by kernel_rfl) (fun _ _ _ h => h) (Or.inl ⟨by rfl, ?_⟩) (by assumption) ?_
        · intro w hSw; (try dsimp only at hSw); go_simp; (try simp)
        try simp only [Act.put, List.setIfInBounds_toArray, List.set_cons_zero, List.set_cons_succ]
        refine wpAnyH_take (i := 25) (oi := ⟨some 138, _, _, _, _, none⟩) (v := (.bool false)) rfl (by kernel_rfl) (by kernel_rfl) (by kernel_rfl) (fun _ _ _ h => h) (Or.inl ⟨by rfl, ?_⟩) (by assumption) ?_
        · intro w hSw; (try dsimp only at hSw); go_simp; (try simp)
        try simp only [Act.put, List.setIfInBounds_toArray, List.set_cons_zero, List.set_cons_succ]
        refine wpAnyH_take (i := 26) (oi := ⟨some 139, _, _, _, _, none⟩) (v := ?_) rfl (by kernel_rfl) (by kernel_rfl) (by kernel_rfl) (fun _ _ _ h => h) (Or.inl ⟨by rfl, ?_⟩) (by assumption) ?_
        rotate_left
        · intro w hSw; (try dsimp only at hSw); go_simp; (try with_reducible rfl)
        try simp only [Act.put, List.setIfInBounds_toArray, List.set_cons_zero, List.set_cons_succ]
        refine wpAnyH_take (i := 27) (oi := ⟨some 140, _, _, _, _, some (26, false)⟩) (v := ?_) rfl (by kernel_rfl) (by kernel_rfl) (by kernel_rfl) (fun _ _ _ h => h) (Or.inl ⟨by rfl, ?_⟩) (by assumption) ?_
        rotate_left
        · intro w hSw; (try dsimp only at hSw); go_simp; (try with_reducible rfl)
        try simp only [Act.put, List.setIfInBounds_toArray, List.set_cons_zero, List.set_cons_succ]
        refine wpAnyH_take (i := 28) (oi := ⟨some 141, _, _, _, _, some (26, false)⟩) (v := ?_) rfl (by kernel_rfl) (by kernel_rfl) (by kernel_rfl) (fun _ _ _ h => h) (Or.inl ⟨by rfl, ?_⟩) (by assumption) ?_
        rotate_left
        · intro w hSw; (try dsimp only at hSw); go_simp; (try with_reducible rfl)
        try simp only [Act.put, List.setIfInBounds_toArray, List.set_cons_zero, List.set_cons_succ]
        refine wpAnyH_take (i := 29) (oi := ⟨some 142, _, _, _, _, some (28, true)⟩) (v := ?_) rfl (by kernel_rfl) (by kernel_rfl) (by kernel_rfl) (fun _ _ _ h => h) (Or.inl ⟨by rfl, ?_⟩) (by assumption) ?_
        rotate_left
        · intro w hSw; (try dsimp only at hSw); go_simp; (try with_reducible rfl)
        try simp only [Act.put, List.setIfInBounds_toArray, List.set_cons_zero, List.set_cons_succ]
        refine wpAnyH_take (i := 30) (oi := ⟨some 143, _, _, _, _, some (28, true)⟩) (v := (.pointer (some ⟨xb, 2, none⟩))) rfl (by kernel_rfl) (by kernel_rfl) (by kernel_rfl) (fun _ _ _ h => h) (Or.inl ⟨by rfl, ?_⟩) (by assumption) ?_
        · intro w hSw; (try dsimp only at hSw); go_simp; (try simp)
        try simp only [Act.put, List.setIfInBounds_toArray, List.set_cons_zero, List.set_cons_succ]
        refine wpAnyH_take (i := 31) (oi := ⟨some 144, _, _, _, _, some (28, true)⟩) (v := (.slice (some ⟨g, 0, none⟩) n c2)) rfl (by kernel_rfl) (by kernel_rfl) (by kernel_rfl) (fun _ _ _ h => h) (Or.inl ⟨by rfl, ?_⟩) (by assumption) ?_
        · intro w hSw; (try dsimp only at hSw); have q2 : w.cell? ⟨xb, 2, none⟩ = some (.slice (some ⟨g, 0, none⟩) n c2) := hSw.1.out.cell 2; go_simp; (try simp)
        try simp only [Act.put, List.setIfInBounds_toArray, List.set_cons_zero, List.set_cons_succ]
        refine wpAnyH_take (i := 32) (oi := ⟨some 145, _, _, _, _, some (28, true)⟩) (v := (.pointer (some ⟨g, 0, none⟩))) rfl (by kernel_rfl) (by kernel_rfl) (by kernel_rfl) (fun _ _ _ h => h) (Or.inl ⟨by rfl, ?_⟩) (by assumption) ?_
        · intro w hSw; (try dsimp only at hSw); have np9 := np; go_simp; (try simp)
        try simp only [Act.put, List.setIfInBounds_toArray, List.set_cons_zero, List.set_cons_succ]
        refine wpAnyH_take (i := 33) (oi := ⟨some 146, _, _, _, _, some (28, true)⟩) (v := (.int .i64 y)) rfl (by kernel_rfl) (by kernel_rfl) (by kernel_rfl) (fun _ _ _ h => h) (Or.inl ⟨by rfl, ?_⟩) (by assumption) ?_
        · intro w hSw; (try dsimp only at hSw); obtain ⟨g9, e9, _, _, q9⟩ := hSw.2.out 0 (by simp); cases e9; simp only [List.getElem_cons_zero] at q9; go_simp; (try simp)
        try simp only [Act.put, List.setIfInBounds_toArray, List.set_cons_zero, List.set_cons_succ]
        refine wpAnyH_take (i := 34) (oi := ⟨some 147, _, _, _, _, some (28, true)⟩) (v := (.bool false)) rfl (by kernel_rfl) (by kernel_rfl) (by kernel_rfl) (fun _ _ _ h => h) (Or.inl ⟨by rfl, ?_⟩) (by assumption) ?_
        · intro w hSw; (try dsimp only at hSw); go_simp; (try simp)
        try simp only [Act.put, List.setIfInBounds_toArray, List.set_cons_zero, List.set_cons_succ]
        refine wpAnyH_take (i := 35) (oi := ⟨some 148, _, _, _, _, some (26, false)⟩) (v := (.bool false)) rfl (by kernel_rfl) (by kernel_rfl) (by kernel_rfl) (fun _ _ _ h => h) (Or.inl ⟨by rfl, ?_⟩) (by assumption) ?_
        · intro w hSw; (try dsimp only at hSw); go_simp; (try simp)
        try simp only [Act.put, List.setIfInBounds_toArray, List.set_cons_zero, List.set_cons_succ]
        refine wpAnyH_take (i := 36) (oi := ⟨some 149, _, _, _, _, none⟩) (v := (.bool false)) rfl (by kernel_rfl) (by kernel_rfl) (by kernel_rfl) (fun _ _ _ h => h) (Or.inl ⟨by rfl, ?_⟩) (by assumption) ?_
        · intro w hSw; (try dsimp only at hSw); go_simp; (try simp)
        try simp only [Act.put, List.setIfInBounds_toArray, List.set_cons_zero, List.set_cons_succ]
        refine wpAnyH_take (i := 37) (oi := ⟨some 150, _, _, _, _, none⟩) (v := ?_) rfl (by kernel_rfl) (by kernel_rfl) (by kernel_rfl) (fun _ _ _ h => h) (Or.inl ⟨by rfl, ?_⟩) (by assumption) ?_
        rotate_left
        · intro w hSw; (try dsimp only at hSw); go_simp; (try with_reducible rfl)
        try simp only [Act.put, List.setIfInBounds_toArray, List.set_cons_zero, List.set_cons_succ]
        refine wpAnyH_take (i := 38) (oi := ⟨some 151, _, _, _, _, some (37, false)⟩) (v := ?_) rfl (by kernel_rfl) (by kernel_rfl) (by kernel_rfl) (fun _ _ _ h => h) (Or.inl ⟨by rfl, ?_⟩) (by assumption) ?_
        rotate_left
        · intro w hSw; (try dsimp only at hSw); go_simp; (try with_reducible rfl)
        try simp only [Act.put, List.setIfInBounds_toArray, List.set_cons_zero, List.set_cons_succ]
        refine wpAnyH_take (i := 39) (oi := ⟨some 152, _, _, _, _, some (37, false)⟩) (v := (.bool false)) rfl (by kernel_rfl) (by kernel_rfl) (by kernel_rfl) (fun _ _ _ h => h) (Or.inl ⟨by rfl, ?_⟩) (by assumption) ?_
        · intro w hSw; (try dsimp only at hSw); go_simp; (try simp)
        try simp only [Act.put, List.setIfInBounds_toArray, List.set_cons_zero, List.set_cons_succ]
        refine wpAnyH_take (i := 40) (oi := ⟨some 153, _, _, _, _, some (37, false)⟩) (v := ?_) rfl (by kernel_rfl) (by kernel_rfl) (by kernel_rfl) (fun _ _ _ h => h) (Or.inl ⟨by rfl, ?_⟩) (by assumption) ?_
        rotate_left
        · intro w hSw; (try dsimp only at hSw); go_simp; (try with_reducible rfl)
        try simp only [Act.put, List.setIfInBounds_toArray, List.set_cons_zero, List.set_cons_succ]
        refine wpAnyH_take (i := 41) (oi := ⟨some 154, _, _, _, _, some (40, true)⟩) (v := undef) rfl (by kernel_rfl) (by kernel_rfl) (by kernel_rfl) (fun _ _ _ h => h) (Or.inr ⟨by rfl, rfl⟩) (by assumption) ?_
        try simp only [Act.put, List.setIfInBounds_toArray, List.set_cons_zero, List.set_cons_succ]
        refine wpAnyH_take (i := 42) (oi := ⟨some 155, _, _, _, _, some (40, true)⟩) (v := undef) rfl (by kernel_rfl) (by kernel_rfl) (by kernel_rfl) (fun _ _ _ h => h) (Or.inr ⟨by rfl, rfl⟩) (by assumption) ?_
        try simp only [Act.put, List.setIfInBounds_toArray, List.set_cons_zero, List.set_cons_succ]
        refine wpAnyH_take (i := 43) (oi := ⟨some 156, _, _, _, _, some (37, false)⟩) (v := (.bool false)) rfl (by kernel_rfl) (by kernel_rfl) (by kernel_rfl) (fun _ _ _ h => h) (Or.inl ⟨by rfl, ?_⟩) (by assumption) ?_
        · intro w hSw; (try dsimp only at hSw); go_simp; (try simp)
        try simp only [Act.put, List.setIfInBounds_toArray, List.set_cons_zero, List.set_cons_succ]
        refine wpAnyH_take (i := 44) (oi := ⟨some 157, _, _, _, _, none⟩) (v := (.bool false)) rfl (by kernel_rfl) (by kernel_rfl) (by kernel_rfl) (fun _ _ _ h => h) (Or.inl ⟨by rfl, ?_⟩) (by assumption) ?_
        · intro w hSw; (try dsimp only at hSw); go_simp; (try simp)
        try simp only [Act.put, List.setIfInBounds_toArray, List.set_cons_zero, List.set_cons_succ]
        clear hHeld
        refine wpAnyH_done (by kernel_rfl) ?_ _
        refine NoPanic.normal ?_
        go_wp2_with fail
        go_roundw
        case rel => exact ⟨k + 1, ⟨qs, ts, (y :: r)⟩, (some ⟨g, 0, none⟩), c2, by omega, by omega, by go_num, hG, v2B.out.1, v2B.out.2.1, v2B.out.2.2⟩
        case measure => simp [intOf]; omega

theorem own : ownKnob Try.prog.godebug = none := by kernel_rfl
theorem laidOut : laidOutB Try.prog = true := by kernel_rfl
set_option maxRecDepth 100000 in
theorem lifted (os : Os) (started : os.Started) (H : Type) (enc : TypeId × Value → H) :
    ReturnsInHanded {} Try.checked os 3 .any (Rows.schedPlaysSpec.pre6 enc Try.prog Try.f3 Rows.schedPlaysRow.domain false) (Rows.schedPlaysSpec.post enc Try.prog Try.f3 false true false false) := by
  refine returnsInHanded_of_change (C := Try.checked) own started (by kernel_rfl) Try.func3
    (ChangeSpec.witness6 (enc := enc) (C := Try.checked) false ⟨#[], #[.int .i64 0, .slice none 0 0], []⟩ 8 (by kernel_rfl) (by kernel_rfl) (by kernel_rfl) (by kernel_rfl)) ?_
  intro W base args ds gs before hval0 hW hcnd _
  have hval : ∀ (j : Nat) t v, Try.f3.params[j]? = some t → args[j]? = some v → Value.okWide Try.prog W .any base t v := hval0
  have hW' := hW
  obtain ⟨p, q, hA0, hV, hbef, hfz, hnd⟩ := hW
  have hA : DataW.TrodAll enc Try.prog W 0 (fun _ => true) true Try.f3.params.toList args.toList ds p := hA0
  have hAk := hA
  have hlt : ∀ x ∈ p, x.block < W.heap.size := fun x hx => hW'.lt x (by rw [hbef]; exact List.mem_append_left _ hx)
  rw [Try.params3] at hA hval
  obtain ⟨v0, vs0, d0, ds0, p0, q0, hargs, rfl, hp0, h0, r0⟩ := trodAll_cons hA
  obtain ⟨v1, vs1, d1, ds1, p1, q1, rfl, rfl, hp1, h1, r1⟩ := trodAll_cons r0
  obtain ⟨rfl, rfl, hpz⟩ := trodAll_nil r1
  obtain rfl : args = #[v0, v1] := by cases args; simp_all
  obtain ⟨rfl, rfl⟩ := trodVars_none hV
  obtain ⟨a0, rfl, _, _, w0⟩ := open_int Try.underlying3 (hval 0 3 v0 rfl rfl) h0
  obtain ⟨p1, n1, c1, A1, rfl, m1, H1⟩ := open_acts (hval 1 22 v1 rfl rfl) h1
  clear hA0 hval0
  refine (walk a0 w0 p1 n1 c1 A1 m1 W H1).mono fun e W' ⟨he, hg⟩ => ?_
  subst he
  exact ⟨_, rfl, ⟨_, _, _, [], p, [], hW', (trodAll_cons_mk (shut_bool Try.underlying4 _) trodAll_mk0), args_stay laidOut hg (by kernel_rfl) hAk hlt, rfl, hg.frame _, fun h => by cases h⟩⟩

theorem over : Rows.schedPlaysRow.holds Try.pinned (OpenSpec.ofChange Rows.schedPlaysSpec) :=
  OpenClaim.holds_of_wide 3 Try.f3 rfl rfl rfl rfl rfl rfl rfl ⟨rfl, rfl, rfl, rfl, rfl⟩ rfl rfl rfl rfl rfl (by kernel_rfl) Try.func3 (by kernel_rfl)
    (of_decide_eq_true (by kernel_rfl)) (by unfold Func.isWrapper; first | (rw [if_pos (by decide +kernel)]; kernel_rfl) | (rw [if_neg (by decide +kernel)]; exact ⟨rfl, rfl⟩))
    (fun os started H enc _ => lifted os started H enc)

theorem proved : Rows.SchedPlaysSaid :=
  over
#print axioms proved
end Go.Proofs.Ytcamghafjgjgdaa.schedPlays
