/- For any calls, two processes and two pages: what is offered, taken, left, taken again and revoked leaves just the others behind; behind any 30 calls; no condition. -/
import Derived.Test.YtenfdcjnfgjilaaRows
import Derived.ProofKit
import Derived.OpenShut
import Derived.Carry
import Derived.Test.YtenfdcjnfgjilaaSM
import Derived.Test.YtenfdcjnfgjilaaSX
namespace Go.Proofs.Ytenfdcjnfgjilaa.shareRound
open Go.ChangeShapes Go.WideShapes Go.ChangeAt Go.RowKit Go.Maps
set_option linter.unusedSimpArgs false
set_option linter.unusedVariables false

set_option maxRecDepth 8000 in
set_option maxHeartbeats 32000000 in
theorem walk (p0 : Option Addr) (n0 c0 : Nat) (A0 : Nat → Ac) (m0 : n0 ≤ maxLen) (a1 : Int) (w1 : (Lit.int .i64 a1).wf = true) (a2 : Int) (w2 : (Lit.int .i64 a2).wf = true) (a3 : Int) (w3 : (Lit.int .i64 a3).wf = true) (a4 : Int) (w4 : (Lit.int .i64 a4).wf = true) (w : World) (H0 : IsActs w p0 n0 A0) :
    Calls Try.prog 6 #[.slice p0 n0 c0, .int .i64 a1, .int .i64 a2, .int .i64 a3, .int .i64 a4] w fun e w' => e = .returned (.bool true) ∧ Below w.heap.size w w' := by
  have AW : Hid (∀ W : World, Calls Try.prog 8 #[] W fun e w' => e = .returned (.bool true) ∧ Below W.heap.size W w') := fun W => awake_any W
  have DO : Hid (∀ (T : Nat → Gr) (K A B P : Int) (X : Bool) (W : World), IsTab W w.heap.size T → Calls Try.prog 9 #[.pointer (some ⟨w.heap.size, 0, none⟩), .slice none 0 0, .agg #[.int .i64 K, .int .i64 A, .int .i64 B, .int .i64 P, .bool X]] W fun e w' => (∃ v, e = .returned v) ∧ IsTab w' w.heap.size (doesT T K A B P X) ∧ W.grownBy w' (some w.heap.size)) := fun T K A B P X W h => does_nil w.heap.size T K A B P X W h
  obtain ⟨Zs, hz, hs, hzz⟩ := zeroT
  have M : Hid (Own w (w.alloc (.cells Zs 27)) w.heap.size zT) := ⟨IsTab.made w Zs hs hzz, Go.Joins.below_alloc1 _ _, Nat.le_refl _⟩
  have HA : Hid (IsActs w p0 n0 A0) := H0
  clear H0 hs hzz
  have mm : (n0 : Int) ≤ 9223372036854775807 := by have : maxLen ≤ 9223372036854775807 := by decide +kernel
                                                   omega
  by_cases k0 : a1 < 0
  · have e0 : decide (a1 < 0) = true := by simp [k0]
    skip
    go_enter Try.func6, Try.ntmps6
    go_wp2_with fail
    refine (AW.out _).mono ?_
    rintro e u1 ⟨rfl, hb1⟩
    have B1 : Hid (Below w.heap.size w u1) := below_then (Go.Joins.below_alloc1 _ _) hb1
    clear hb1
    go_wp2_with fail
    go_ret
    exact ⟨rfl, B1.out⟩
  have e0 : decide (a1 < 0) = false := by simp; omega
  by_cases k1 : 15 < a1
  · have e1 : decide (15 < a1) = true := by simp [k1]
    skip
    go_enter Try.func6, Try.ntmps6
    go_wp2_with fail
    refine (AW.out _).mono ?_
    rintro e u1 ⟨rfl, hb1⟩
    have B1 : Hid (Below w.heap.size w u1) := below_then (Go.Joins.below_alloc1 _ _) hb1
    clear hb1
    go_wp2_with fail
    go_ret
    exact ⟨rfl, B1.out⟩
  have e1 : decide (15 < a1) = false := by simp; omega
  by_cases k2 : a3 < 0
  · have e2 : decide (a3 < 0) = true := by simp [k2]
    skip
    go_enter Try.func6, Try.ntmps6
    go_wp2_with fail
    refine (AW.out _).mono ?_
    rintro e u1 ⟨rfl, hb1⟩
    have B1 : Hid (Below w.heap.size w u1) := below_then (Go.Joins.below_alloc1 _ _) hb1
    clear hb1
    go_wp2_with fail
    go_ret
    exact ⟨rfl, B1.out⟩
  have e2 : decide (a3 < 0) = false := by simp; omega
  by_cases k3 : 15 < a3
  · have e3 : decide (15 < a3) = true := by simp [k3]
    skip
    go_enter Try.func6, Try.ntmps6
    go_wp2_with fail
    refine (AW.out _).mono ?_
    rintro e u1 ⟨rfl, hb1⟩
    have B1 : Hid (Below w.heap.size w u1) := below_then (Go.Joins.below_alloc1 _ _) hb1
    clear hb1
    go_wp2_with fail
    go_ret
    exact ⟨rfl, B1.out⟩
  have e3 : decide (15 < a3) = false := by simp; omega
  by_cases k4 : a1 = a3
  · have e4 : (a1 == a3) = true := by simp [k4]
    clear k4
    go_enter Try.func6, Try.ntmps6
    go_wp2_with fail
    refine (AW.out _).mono ?_
    rintro e u1 ⟨rfl, hb1⟩
    have B1 : Hid (Below w.heap.size w u1) := below_then (Go.Joins.below_alloc1 _ _) hb1
    clear hb1
    go_wp2_with fail
    go_ret
    exact ⟨rfl, B1.out⟩
  have e4 : (a1 == a3) = false := by simp [k4]
  by_cases k5 : a2 < 0
  · have e5 : decide (a2 < 0) = true := by simp [k5]
    skip
    go_enter Try.func6, Try.ntmps6
    go_wp2_with fail
    refine (AW.out _).mono ?_
    rintro e u1 ⟨rfl, hb1⟩
    have B1 : Hid (Below w.heap.size w u1) := below_then (Go.Joins.below_alloc1 _ _) hb1
    clear hb1
    go_wp2_with fail
    go_ret
    exact ⟨rfl, B1.out⟩
  have e5 : decide (a2 < 0) = false := by simp; omega
  by_cases k6 : 34359738368 ≤ a2
  · have e6 : decide (34359738368 ≤ a2) = true := by simp [k6]
    skip
    go_enter Try.func6, Try.ntmps6
    go_wp2_with fail
    refine (AW.out _).mono ?_
    rintro e u1 ⟨rfl, hb1⟩
    have B1 : Hid (Below w.heap.size w u1) := below_then (Go.Joins.below_alloc1 _ _) hb1
    clear hb1
    go_wp2_with fail
    go_ret
    exact ⟨rfl, B1.out⟩
  have e6 : decide (34359738368 ≤ a2) = false := by simp; omega
  by_cases k7 : a4 < 0
  · have e7 : decide (a4 < 0) = true := by simp [k7]
    skip
    go_enter Try.func6, Try.ntmps6
    go_wp2_with fail
    refine (AW.out _).mono ?_
    rintro e u1 ⟨rfl, hb1⟩
    have B1 : Hid (Below w.heap.size w u1) := below_then (Go.Joins.below_alloc1 _ _) hb1
    clear hb1
    go_wp2_with fail
    go_ret
    exact ⟨rfl, B1.out⟩
  have e7 : decide (a4 < 0) = false := by simp; omega
  by_cases k8 : 34359738368 ≤ a4
  · have e8 : decide (34359738368 ≤ a4) = true := by simp [k8]
    skip
    go_enter Try.func6, Try.ntmps6
    go_wp2_with fail
    refine (AW.out _).mono ?_
    rintro e u1 ⟨rfl, hb1⟩
    have B1 : Hid (Below w.heap.size w u1) := below_then (Go.Joins.below_alloc1 _ _) hb1
    clear hb1
    go_wp2_with fail
    go_ret
    exact ⟨rfl, B1.out⟩
  have e8 : decide (34359738368 ≤ a4) = false := by simp; omega
  obtain ⟨p, rfl⟩ : ∃ p : Nat, a1 = p := ⟨a1.toNat, by omega⟩
  have hp : p < 16 := by omega
  have hB : offB p a2 a3 = false := by
    unfold offB isProc isPage
    rw [e4]
    simp
    omega
  have ha : isPage a4 = true := by unfold isPage; simp; omega
  have OL : Hid (∀ (T : Nat → Gr) (W : World), IsTab W w.heap.size T → Calls Try.prog 10 #[.pointer (some ⟨w.heap.size, 0, none⟩), .int .i64 p] W fun e w' => (∃ q c, e = .returned (.slice q (ofL T p 256).length c)) ∧ Below W.heap.size W w') := fun T W h => (of_call w.heap.size T p W h).mono fun e w' ⟨⟨q, c, h1, _⟩, h3⟩ => ⟨⟨q, c, h1⟩, h3⟩
  have LE : Hid (∀ (T : Nat → Gr) (W : World), IsTab W w.heap.size T → Calls Try.prog 12 #[.pointer (some ⟨w.heap.size, 0, none⟩), .int .i64 p, .int .i64 a2] W fun e w' => e = .returned (.int .i64 (lentN T p a2 256 : Nat)) ∧ Below W.heap.size W w') := fun T W h => lent_any w.heap.size T p a2 W h
  have OF : Hid (∀ (T : Nat → Gr) (W : World), IsTab W w.heap.size T → Calls Try.prog 17 #[.pointer (some ⟨w.heap.size, 0, none⟩), .int .i64 p, .int .i64 a2, .int .i64 a3, .bool true] W fun e w' => e = .returned (.tuple #[.int .i64 (offI T p a2 a3), .int .i64 (offE T p a2 a3)]) ∧ IsTab w' w.heap.size (offT T p a2 a3 true) ∧ W.grownBy w' (some w.heap.size)) := fun T W h => offer_any w.heap.size T p a2 a3 true W h
  have AC : Hid (∀ (T : Nat → Gr) (i : Int) (W : World), IsTab W w.heap.size T → Calls Try.prog 20 #[.pointer (some ⟨w.heap.size, 0, none⟩), .int .i64 i, .int .i64 a3, .int .i64 a4] W fun e w' => e = .returned (.int .i64 (accE T i a3 a4)) ∧ IsTab w' w.heap.size (accT T i a3 a4) ∧ W.grownBy w' (some w.heap.size)) := fun T i W h => accept_any w.heap.size T i a3 a4 W h
  have LV : Hid (∀ (T : Nat → Gr) (i : Int) (W : World), IsTab W w.heap.size T → Calls Try.prog 21 #[.pointer (some ⟨w.heap.size, 0, none⟩), .int .i64 i, .int .i64 a3] W fun e w' => e = .returned (.tuple #[(leaG T i a3).val, .int .i64 (leaE T i a3)]) ∧ IsTab w' w.heap.size (leaT T i a3) ∧ W.grownBy w' (some w.heap.size)) := fun T i W h => leave_any w.heap.size T i a3 W h
  have RV : Hid (∀ (T : Nat → Gr) (i : Int) (W : World), IsTab W w.heap.size T → Calls Try.prog 18 #[.pointer (some ⟨w.heap.size, 0, none⟩), .int .i64 i, .int .i64 p] W fun e w' => e = .returned (.tuple #[(revG T i p).val, .int .i64 (revE T i p)]) ∧ IsTab w' w.heap.size (revT T i p) ∧ W.grownBy w' (some w.heap.size)) := fun T i W h => revoke_any w.heap.size T i p W h
  have GT : Hid (∀ (T : Nat → Gr) (i : Int) (W : World), IsTab W w.heap.size T → Calls Try.prog 14 #[.pointer (some ⟨w.heap.size, 0, none⟩), .int .i64 i] W fun e w' => e = .returned (.tuple #[(getG T i).val, .bool (getG T i).is]) ∧ Below W.heap.size W w') := fun T i W h => get_any w.heap.size T i W h
  have RD : Hid (∀ T : Nat → Gr, Zr T → offE T p a2 a3 = 0 → ∃ m : Nat, m < 256 ∧ offI T p a2 a3 = m ∧ offT T p a2 a3 true = putT T m ⟨p, a2, a3, true, false, 0⟩
      ∧ accE (putT T m ⟨p, a2, a3, true, false, 0⟩) m a3 a4 = 0 ∧ accT (putT T m ⟨p, a2, a3, true, false, 0⟩) m a3 a4 = putT T m ⟨p, a2, a3, true, true, a4⟩
      ∧ lentN (putT T m ⟨p, a2, a3, true, true, a4⟩) p a2 256 = lentN T p a2 256 + 1
      ∧ leaE (putT T m ⟨p, a2, a3, true, true, a4⟩) m a3 = 0 ∧ leaG (putT T m ⟨p, a2, a3, true, true, a4⟩) m a3 = ⟨p, a2, a3, true, true, a4⟩ ∧ leaT (putT T m ⟨p, a2, a3, true, true, a4⟩) m a3 = putT T m ⟨p, a2, a3, true, false, 0⟩
      ∧ revE (putT T m ⟨p, a2, a3, true, true, a4⟩) m p = 0 ∧ revG (putT T m ⟨p, a2, a3, true, true, a4⟩) m p = ⟨p, a2, a3, true, true, a4⟩ ∧ revT (putT T m ⟨p, a2, a3, true, true, a4⟩) m p = T
      ∧ getG T m = Gr.zero) := fun T hz h0 => round_of hz p a2 a3 a4 hp hB ha h0
  have FO : Hid (∀ T : Nat → Gr, offE T p a2 a3 ≠ 0 → offE T p a2 a3 = 4 ∧ offI T p a2 a3 = 0 ∧ offT T p a2 a3 true = T) := fun T h => off_four hB h true
  clear k0 k1 k2 k3 k5 k6 k7 k8 hB ha
  go_enter Try.func6, Try.ntmps6
  go_wp2_with fail
  go_loopw [12] (fun x W => ∃ (k : Nat) (T : Nat → Gr), k ≤ n0 ∧ k ≤ 30 ∧ x = .int .i64 k ∧ Hid (Own w W w.heap.size T ∧ Zr T)) (fun x _ => 30 - (intOf x).toNat)
  case atStart => exact ⟨0, _, by omega, by omega, rfl, M.out, zr_zero⟩
  case round =>
    obtain ⟨k, T, hk, hk6, rfl, hM⟩ := hrel
    by_cases hlt : k < n0 ∧ k < 30
    · have hd : decide ((k : Int) < (n0 : Int)) = true := by simp; omega
      have hd2 : decide ((k : Int) < 30) = true := by simp; omega
      obtain ⟨b, o, rfl, lb, cc, fit⟩ := HA.out k hlt.1
      generalize A0 k = ac at cc fit
      obtain ⟨ak, aa, ab, ap, ax⟩ := ac
      have fa : -9223372036854775808 ≤ aa ∧ aa ≤ 9223372036854775807 := fit.2.1
      clear fit
      have lb' : b < wr.heap.size := Nat.lt_of_lt_of_le lb hM.out.1.2.1.size
      have c0 : wr.cell? ⟨b, o + k * 5, none⟩ = some (.int .i64 ak) := (hM.out.1.2.1.cell (p := ⟨b, _, none⟩) lb).trans (cc 0 _ rfl)
      have c1 : wr.cell? ⟨b, o + k * 5 + 1, none⟩ = some (.int .i64 aa) := (hM.out.1.2.1.cell (p := ⟨b, _, none⟩) lb).trans (cc 1 _ rfl)
      have c2 : wr.cell? ⟨b, o + k * 5 + 2, none⟩ = some (.int .i64 ab) := (hM.out.1.2.1.cell (p := ⟨b, _, none⟩) lb).trans (cc 2 _ rfl)
      have c3 : wr.cell? ⟨b, o + k * 5 + 3, none⟩ = some (.int .i64 ap) := (hM.out.1.2.1.cell (p := ⟨b, _, none⟩) lb).trans (cc 3 _ rfl)
      have c4 : wr.cell? ⟨b, o + k * 5 + 4, none⟩ = some (.bool ax) := (hM.out.1.2.1.cell (p := ⟨b, _, none⟩) lb).trans (cc 4 _ rfl)
      clear cc lb
      go_wp2_with fail
      refine (DO.out T ak aa ab ap ax _ hM.out.1.1).mono ?_
      rintro e u1 ⟨⟨v, rfl⟩, h1, h2⟩
      have M1 : Hid (Own w u1 w.heap.size (doesT T ak aa ab ap ax)) := hM.out.1.next h1 h2
      clear h1 h2 c0 c1 c2 c3 c4 lb'
      go_wp2_with fail
      go_roundw
      case rel => exact ⟨k + 1, _, by omega, by omega, by go_num, M1.out, hM.out.2.does _ _ _ _ _⟩
      case measure => simp [intOf]; omega
    · have hQ : (k < n0 ∧ ¬ k < 30) ∨ ¬ k < n0 := by omega
      clear hlt DO HA
      have hM1 : Hid (Own w wr w.heap.size T) := hM.out.1
      have ol := OL.out T
      have le := LE.out T
      have of := OF.out T
      have hl6 : lentN T p a2 256 ≤ 256 := lent_le _ _ _ _
      have rd := RD.out T hM.out.2
      have fo := FO.out T
      clear hM OF RD FO
      have gt := GT.out T
      have lx := LE.out
      generalize hL : (ofL T p 256).length = ln at ol
      generalize hE : lentN T p a2 256 = l at le hl6 rd
      clear hL hE
      have OT : Hid _ := ol
      have LT : Hid _ := le
      clear ol le
      by_cases hE : offE T p a2 a3 = 0
      · obtain ⟨m, hm, q1, q2, q3, q4, q5, q6, q7, q8, q9, qA, qB, qC⟩ := rd hE
        rw [q1, q2, hE] at of
        have OFT : Hid _ := of
        have ac := AC.out (putT T m ⟨p, a2, a3, true, false, 0⟩) m
        rw [q3, q4] at ac
        have ACT : Hid _ := ac
        have lv := LV.out (putT T m ⟨p, a2, a3, true, true, a4⟩) m
        rw [q6, q7, q8] at lv
        have LVT : Hid _ := lv
        have rv := RV.out (putT T m ⟨p, a2, a3, true, true, a4⟩) m
        rw [q9, qA, qB] at rv
        have RVT : Hid _ := rv
        have gm := gt m
        rw [qC] at gm
        have GTT : Hid _ := gm
        have l2 : Hid (∀ W : World, IsTab W w.heap.size (putT T m ⟨p, a2, a3, true, true, a4⟩) → Calls Try.prog 12 #[.pointer (some ⟨w.heap.size, 0, none⟩), .int .i64 p, .int .i64 a2] W fun e w' => e = .returned (.int .i64 ((l : Int) + 1)) ∧ Below W.heap.size W w') := fun W h => by
          have := LE.out (putT T m ⟨p, a2, a3, true, true, a4⟩) W h
          rw [q5, show ((l + 1 : Nat) : Int) = (l : Int) + 1 by omega] at this; exact this
        clear of ac lv rv gm q1 q2 q3 q4 q5 q6 q7 q8 q9 qA qB qC gt lx AC LV RV GT LE OL fo rd hE
        rcases hQ with ⟨hq, hq2⟩ | hq
        · have hd : decide ((k : Int) < (n0 : Int)) = true := by simp; omega
          have hd2 : decide ((k : Int) < 30) = false := by simp; omega
          go_wp2_with fail
          refine (OT.out _ hM1.out.1).mono ?_
          rintro e u1 ⟨⟨s1, c1, rfl⟩, hb⟩
          have M1 : Hid (Own w u1 w.heap.size T) := hM1.out.grow hb
          clear hb hM1
          go_wp2_with fail
          refine (LT.out _ M1.out.1).mono ?_
          rintro e u2 ⟨rfl, hb⟩
          have M2 : Hid (Own w u2 w.heap.size T) := M1.out.grow hb
          clear hb M1
          go_wp2_with fail
          refine (OFT.out _ M2.out.1).mono ?_
          rintro e u3 ⟨rfl, h1, h2⟩
          have M3 : Hid (Own w u3 w.heap.size (putT T m ⟨p, a2, a3, true, false, 0⟩)) := M2.out.next h1 h2
          clear h1 h2 M2
          go_wp2_with fail
          refine (ACT.out _ M3.out.1).mono ?_
          rintro e u4 ⟨rfl, h1, h2⟩
          have M4 : Hid (Own w u4 w.heap.size (putT T m ⟨p, a2, a3, true, true, a4⟩)) := M3.out.next h1 h2
          clear h1 h2 M3
          go_wp2_with fail
          refine (l2.out _ M4.out.1).mono ?_
          rintro e u5 ⟨rfl, hb⟩
          have M5 : Hid (Own w u5 w.heap.size (putT T m ⟨p, a2, a3, true, true, a4⟩)) := M4.out.grow hb
          clear hb M4
          go_wp2_with fail
          refine (LVT.out _ M5.out.1).mono ?_
          rintro e u6 ⟨rfl, h1, h2⟩
          have M6 : Hid (Own w u6 w.heap.size (putT T m ⟨p, a2, a3, true, false, 0⟩)) := M5.out.next h1 h2
          have l6 : w.heap.size < u6.heap.size := M6.out.1.2.2
          have M6b : Hid (Own w (u6.alloc (.cells #[.int .i64 p, .int .i64 a2, .int .i64 a3, .bool true, .bool true, .int .i64 a4] 24)) w.heap.size (putT T m ⟨p, a2, a3, true, false, 0⟩)) := M6.out.grow (Go.Joins.below_alloc1 _ _)
          clear h1 h2 M5 M6
          go_wp2_with fail
          refine (ACT.out _ M6b.out.1).mono ?_
          rintro e u7 ⟨rfl, h1, h2⟩
          have M7 : Hid (Own w u7 w.heap.size (putT T m ⟨p, a2, a3, true, true, a4⟩)) := M6b.out.next h1 h2
          have x0 : u7.cell? ⟨u6.heap.size, 0, none⟩ = some (.int .i64 p) := cell_grown h2 (by simp) (by omega) (by simp)
          have x1 : u7.cell? ⟨u6.heap.size, 1, none⟩ = some (.int .i64 a2) := cell_grown h2 (by simp) (by omega) (by simp)
          have x2 : u7.cell? ⟨u6.heap.size, 2, none⟩ = some (.int .i64 a3) := cell_grown h2 (by simp) (by omega) (by simp)
          have x3 : u7.cell? ⟨u6.heap.size, 3, none⟩ = some (.bool true) := cell_grown h2 (by simp) (by omega) (by simp)
          have x4 : u7.cell? ⟨u6.heap.size, 4, none⟩ = some (.bool true) := cell_grown h2 (by simp) (by omega) (by simp)
          have x5 : u7.cell? ⟨u6.heap.size, 5, none⟩ = some (.int .i64 a4) := cell_grown h2 (by simp) (by omega) (by simp)
          have l7 : u6.heap.size < u7.heap.size := Nat.lt_of_lt_of_le (by simp) h2.size
          clear h1 h2 M6b
          go_wp2_with fail
          refine (RVT.out _ M7.out.1).mono ?_
          rintro e u8 ⟨rfl, h1, h2⟩
          have M8 : Hid (Own w u8 w.heap.size T) := M7.out.next h1 h2
          have y0 : u8.cell? ⟨u6.heap.size, 0, none⟩ = some (.int .i64 p) := cell_grown h2 l7 (by omega) x0
          have y1 : u8.cell? ⟨u6.heap.size, 1, none⟩ = some (.int .i64 a2) := cell_grown h2 l7 (by omega) x1
          have y2 : u8.cell? ⟨u6.heap.size, 2, none⟩ = some (.int .i64 a3) := cell_grown h2 l7 (by omega) x2
          have y3 : u8.cell? ⟨u6.heap.size, 3, none⟩ = some (.bool true) := cell_grown h2 l7 (by omega) x3
          have y4 : u8.cell? ⟨u6.heap.size, 4, none⟩ = some (.bool true) := cell_grown h2 l7 (by omega) x4
          have y5 : u8.cell? ⟨u6.heap.size, 5, none⟩ = some (.int .i64 a4) := cell_grown h2 l7 (by omega) x5
          have l8 : u6.heap.size < u8.heap.size := Nat.lt_of_lt_of_le l7 h2.size
          have M8b : Hid (Own w (u8.alloc (.cells #[.int .i64 p, .int .i64 a2, .int .i64 a3, .bool true, .bool true, .int .i64 a4] 24)) w.heap.size T) := M8.out.grow (Go.Joins.below_alloc1 _ _)
          clear h1 h2 M7 x0 x1 x2 x3 x4 x5 l7 M8
          go_wp2_with fail
          refine (GTT.out _ M8b.out.1).mono ?_
          rintro e u9 ⟨rfl, hb⟩
          have M9 : Hid (Own w u9 w.heap.size T) := M8b.out.grow hb
          have x0 : u9.cell? ⟨u6.heap.size, 0, none⟩ = some (.int .i64 p) := (hb.cell (p := ⟨u6.heap.size, 0, none⟩) (by simp; omega)).trans ((World.cell?_alloc_lt _ _ _ l8).trans y0)
          have x1 : u9.cell? ⟨u6.heap.size, 1, none⟩ = some (.int .i64 a2) := (hb.cell (p := ⟨u6.heap.size, 1, none⟩) (by simp; omega)).trans ((World.cell?_alloc_lt _ _ _ l8).trans y1)
          have x2 : u9.cell? ⟨u6.heap.size, 2, none⟩ = some (.int .i64 a3) := (hb.cell (p := ⟨u6.heap.size, 2, none⟩) (by simp; omega)).trans ((World.cell?_alloc_lt _ _ _ l8).trans y2)
          have x3 : u9.cell? ⟨u6.heap.size, 3, none⟩ = some (.bool true) := (hb.cell (p := ⟨u6.heap.size, 3, none⟩) (by simp; omega)).trans ((World.cell?_alloc_lt _ _ _ l8).trans y3)
          have x4 : u9.cell? ⟨u6.heap.size, 4, none⟩ = some (.bool true) := (hb.cell (p := ⟨u6.heap.size, 4, none⟩) (by simp; omega)).trans ((World.cell?_alloc_lt _ _ _ l8).trans y4)
          have x5 : u9.cell? ⟨u6.heap.size, 5, none⟩ = some (.int .i64 a4) := (hb.cell (p := ⟨u6.heap.size, 5, none⟩) (by simp; omega)).trans ((World.cell?_alloc_lt _ _ _ l8).trans y5)
          have z0 : u9.cell? ⟨u8.heap.size, 0, none⟩ = some (.int .i64 p) := (hb.cell (p := ⟨u8.heap.size, 0, none⟩) (by simp)).trans (by simp)
          have z1 : u9.cell? ⟨u8.heap.size, 1, none⟩ = some (.int .i64 a2) := (hb.cell (p := ⟨u8.heap.size, 1, none⟩) (by simp)).trans (by simp)
          have z2 : u9.cell? ⟨u8.heap.size, 2, none⟩ = some (.int .i64 a3) := (hb.cell (p := ⟨u8.heap.size, 2, none⟩) (by simp)).trans (by simp)
          have z3 : u9.cell? ⟨u8.heap.size, 3, none⟩ = some (.bool true) := (hb.cell (p := ⟨u8.heap.size, 3, none⟩) (by simp)).trans (by simp)
          have z4 : u9.cell? ⟨u8.heap.size, 4, none⟩ = some (.bool true) := (hb.cell (p := ⟨u8.heap.size, 4, none⟩) (by simp)).trans (by simp)
          have z5 : u9.cell? ⟨u8.heap.size, 5, none⟩ = some (.int .i64 a4) := (hb.cell (p := ⟨u8.heap.size, 5, none⟩) (by simp)).trans (by simp)
          have l9 : u8.heap.size < u9.heap.size := Nat.lt_of_lt_of_le (by simp) hb.size
          have M9b : Hid (Own w (u9.alloc (.cells #[.int .i64 0, .int .i64 0, .int .i64 0, .bool false, .bool false, .int .i64 0] 24)) w.heap.size T) := M9.out.grow (Go.Joins.below_alloc1 _ _)
          clear hb M8b y0 y1 y2 y3 y4 y5 M9
          go_wp2_with fail
          refine (AW.out _).mono ?_
          rintro e v1 ⟨rfl, hb⟩
          have N1 : Hid (Own w v1 w.heap.size T) := M9b.out.grow hb
          have y0 : v1.cell? ⟨u6.heap.size, 0, none⟩ = some (.int .i64 p) := (hb.cell (p := ⟨u6.heap.size, 0, none⟩) (by simp; omega)).trans ((World.cell?_alloc_lt _ _ _ (by show u6.heap.size < u9.heap.size; omega)).trans x0)
          have y1 : v1.cell? ⟨u6.heap.size, 1, none⟩ = some (.int .i64 a2) := (hb.cell (p := ⟨u6.heap.size, 1, none⟩) (by simp; omega)).trans ((World.cell?_alloc_lt _ _ _ (by show u6.heap.size < u9.heap.size; omega)).trans x1)
          have y2 : v1.cell? ⟨u6.heap.size, 2, none⟩ = some (.int .i64 a3) := (hb.cell (p := ⟨u6.heap.size, 2, none⟩) (by simp; omega)).trans ((World.cell?_alloc_lt _ _ _ (by show u6.heap.size < u9.heap.size; omega)).trans x2)
          have y3 : v1.cell? ⟨u6.heap.size, 3, none⟩ = some (.bool true) := (hb.cell (p := ⟨u6.heap.size, 3, none⟩) (by simp; omega)).trans ((World.cell?_alloc_lt _ _ _ (by show u6.heap.size < u9.heap.size; omega)).trans x3)
          have y4 : v1.cell? ⟨u6.heap.size, 4, none⟩ = some (.bool true) := (hb.cell (p := ⟨u6.heap.size, 4, none⟩) (by simp; omega)).trans ((World.cell?_alloc_lt _ _ _ (by show u6.heap.size < u9.heap.size; omega)).trans x4)
          have y5 : v1.cell? ⟨u6.heap.size, 5, none⟩ = some (.int .i64 a4) := (hb.cell (p := ⟨u6.heap.size, 5, none⟩) (by simp; omega)).trans ((World.cell?_alloc_lt _ _ _ (by show u6.heap.size < u9.heap.size; omega)).trans x5)
          have q0 : v1.cell? ⟨u8.heap.size, 0, none⟩ = some (.int .i64 p) := (hb.cell (p := ⟨u8.heap.size, 0, none⟩) (by simp; omega)).trans ((World.cell?_alloc_lt _ _ _ l9).trans z0)
          have q1 : v1.cell? ⟨u8.heap.size, 1, none⟩ = some (.int .i64 a2) := (hb.cell (p := ⟨u8.heap.size, 1, none⟩) (by simp; omega)).trans ((World.cell?_alloc_lt _ _ _ l9).trans z1)
          have q2 : v1.cell? ⟨u8.heap.size, 2, none⟩ = some (.int .i64 a3) := (hb.cell (p := ⟨u8.heap.size, 2, none⟩) (by simp; omega)).trans ((World.cell?_alloc_lt _ _ _ l9).trans z2)
          have q3 : v1.cell? ⟨u8.heap.size, 3, none⟩ = some (.bool true) := (hb.cell (p := ⟨u8.heap.size, 3, none⟩) (by simp; omega)).trans ((World.cell?_alloc_lt _ _ _ l9).trans z3)
          have q4 : v1.cell? ⟨u8.heap.size, 4, none⟩ = some (.bool true) := (hb.cell (p := ⟨u8.heap.size, 4, none⟩) (by simp; omega)).trans ((World.cell?_alloc_lt _ _ _ l9).trans z4)
          have q5 : v1.cell? ⟨u8.heap.size, 5, none⟩ = some (.int .i64 a4) := (hb.cell (p := ⟨u8.heap.size, 5, none⟩) (by simp; omega)).trans ((World.cell?_alloc_lt _ _ _ l9).trans z5)
          clear hb M9b x0 x1 x2 x3 x4 x5 z0 z1 z2 z3 z4 z5
          go_wp2_with fail
          refine (OT.out _ N1.out.1).mono ?_
          rintro e v2 ⟨⟨s2, c2, rfl⟩, hb⟩
          have N2 : Hid (Own w v2 w.heap.size T) := N1.out.grow hb
          clear hb N1 y0 y1 y2 y3 y4 y5 q0 q1 q2 q3 q4 q5
          go_wp2_with fail
          refine (LT.out _ N2.out.1).mono ?_
          rintro e v3 ⟨rfl, hb⟩
          have N3 : Hid (Own w v3 w.heap.size T) := N2.out.grow hb
          clear hb N2
          go_wp2_with fail
          go_ret
          exact ⟨rfl, N3.out.2.1⟩
        · have hd : decide ((k : Int) < (n0 : Int)) = false := by simp; omega
          go_wp2_with fail
          refine (OT.out _ hM1.out.1).mono ?_
          rintro e u1 ⟨⟨s1, c1, rfl⟩, hb⟩
          have M1 : Hid (Own w u1 w.heap.size T) := hM1.out.grow hb
          clear hb hM1
          go_wp2_with fail
          refine (LT.out _ M1.out.1).mono ?_
          rintro e u2 ⟨rfl, hb⟩
          have M2 : Hid (Own w u2 w.heap.size T) := M1.out.grow hb
          clear hb M1
          go_wp2_with fail
          refine (OFT.out _ M2.out.1).mono ?_
          rintro e u3 ⟨rfl, h1, h2⟩
          have M3 : Hid (Own w u3 w.heap.size (putT T m ⟨p, a2, a3, true, false, 0⟩)) := M2.out.next h1 h2
          clear h1 h2 M2
          go_wp2_with fail
          refine (ACT.out _ M3.out.1).mono ?_
          rintro e u4 ⟨rfl, h1, h2⟩
          have M4 : Hid (Own w u4 w.heap.size (putT T m ⟨p, a2, a3, true, true, a4⟩)) := M3.out.next h1 h2
          clear h1 h2 M3
          go_wp2_with fail
          refine (l2.out _ M4.out.1).mono ?_
          rintro e u5 ⟨rfl, hb⟩
          have M5 : Hid (Own w u5 w.heap.size (putT T m ⟨p, a2, a3, true, true, a4⟩)) := M4.out.grow hb
          clear hb M4
          go_wp2_with fail
          refine (LVT.out _ M5.out.1).mono ?_
          rintro e u6 ⟨rfl, h1, h2⟩
          have M6 : Hid (Own w u6 w.heap.size (putT T m ⟨p, a2, a3, true, false, 0⟩)) := M5.out.next h1 h2
          have l6 : w.heap.size < u6.heap.size := M6.out.1.2.2
          have M6b : Hid (Own w (u6.alloc (.cells #[.int .i64 p, .int .i64 a2, .int .i64 a3, .bool true, .bool true, .int .i64 a4] 24)) w.heap.size (putT T m ⟨p, a2, a3, true, false, 0⟩)) := M6.out.grow (Go.Joins.below_alloc1 _ _)
          clear h1 h2 M5 M6
          go_wp2_with fail
          refine (ACT.out _ M6b.out.1).mono ?_
          rintro e u7 ⟨rfl, h1, h2⟩
          have M7 : Hid (Own w u7 w.heap.size (putT T m ⟨p, a2, a3, true, true, a4⟩)) := M6b.out.next h1 h2
          have x0 : u7.cell? ⟨u6.heap.size, 0, none⟩ = some (.int .i64 p) := cell_grown h2 (by simp) (by omega) (by simp)
          have x1 : u7.cell? ⟨u6.heap.size, 1, none⟩ = some (.int .i64 a2) := cell_grown h2 (by simp) (by omega) (by simp)
          have x2 : u7.cell? ⟨u6.heap.size, 2, none⟩ = some (.int .i64 a3) := cell_grown h2 (by simp) (by omega) (by simp)
          have x3 : u7.cell? ⟨u6.heap.size, 3, none⟩ = some (.bool true) := cell_grown h2 (by simp) (by omega) (by simp)
          have x4 : u7.cell? ⟨u6.heap.size, 4, none⟩ = some (.bool true) := cell_grown h2 (by simp) (by omega) (by simp)
          have x5 : u7.cell? ⟨u6.heap.size, 5, none⟩ = some (.int .i64 a4) := cell_grown h2 (by simp) (by omega) (by simp)
          have l7 : u6.heap.size < u7.heap.size := Nat.lt_of_lt_of_le (by simp) h2.size
          clear h1 h2 M6b
          go_wp2_with fail
          refine (RVT.out _ M7.out.1).mono ?_
          rintro e u8 ⟨rfl, h1, h2⟩
          have M8 : Hid (Own w u8 w.heap.size T) := M7.out.next h1 h2
          have y0 : u8.cell? ⟨u6.heap.size, 0, none⟩ = some (.int .i64 p) := cell_grown h2 l7 (by omega) x0
          have y1 : u8.cell? ⟨u6.heap.size, 1, none⟩ = some (.int .i64 a2) := cell_grown h2 l7 (by omega) x1
          have y2 : u8.cell? ⟨u6.heap.size, 2, none⟩ = some (.int .i64 a3) := cell_grown h2 l7 (by omega) x2
          have y3 : u8.cell? ⟨u6.heap.size, 3, none⟩ = some (.bool true) := cell_grown h2 l7 (by omega) x3
          have y4 : u8.cell? ⟨u6.heap.size, 4, none⟩ = some (.bool true) := cell_grown h2 l7 (by omega) x4
          have y5 : u8.cell? ⟨u6.heap.size, 5, none⟩ = some (.int .i64 a4) := cell_grown h2 l7 (by omega) x5
          have l8 : u6.heap.size < u8.heap.size := Nat.lt_of_lt_of_le l7 h2.size
          have M8b : Hid (Own w (u8.alloc (.cells #[.int .i64 p, .int .i64 a2, .int .i64 a3, .bool true, .bool true, .int .i64 a4] 24)) w.heap.size T) := M8.out.grow (Go.Joins.below_alloc1 _ _)
          clear h1 h2 M7 x0 x1 x2 x3 x4 x5 l7 M8
          go_wp2_with fail
          refine (GTT.out _ M8b.out.1).mono ?_
          rintro e u9 ⟨rfl, hb⟩
          have M9 : Hid (Own w u9 w.heap.size T) := M8b.out.grow hb
          have x0 : u9.cell? ⟨u6.heap.size, 0, none⟩ = some (.int .i64 p) := (hb.cell (p := ⟨u6.heap.size, 0, none⟩) (by simp; omega)).trans ((World.cell?_alloc_lt _ _ _ l8).trans y0)
          have x1 : u9.cell? ⟨u6.heap.size, 1, none⟩ = some (.int .i64 a2) := (hb.cell (p := ⟨u6.heap.size, 1, none⟩) (by simp; omega)).trans ((World.cell?_alloc_lt _ _ _ l8).trans y1)
          have x2 : u9.cell? ⟨u6.heap.size, 2, none⟩ = some (.int .i64 a3) := (hb.cell (p := ⟨u6.heap.size, 2, none⟩) (by simp; omega)).trans ((World.cell?_alloc_lt _ _ _ l8).trans y2)
          have x3 : u9.cell? ⟨u6.heap.size, 3, none⟩ = some (.bool true) := (hb.cell (p := ⟨u6.heap.size, 3, none⟩) (by simp; omega)).trans ((World.cell?_alloc_lt _ _ _ l8).trans y3)
          have x4 : u9.cell? ⟨u6.heap.size, 4, none⟩ = some (.bool true) := (hb.cell (p := ⟨u6.heap.size, 4, none⟩) (by simp; omega)).trans ((World.cell?_alloc_lt _ _ _ l8).trans y4)
          have x5 : u9.cell? ⟨u6.heap.size, 5, none⟩ = some (.int .i64 a4) := (hb.cell (p := ⟨u6.heap.size, 5, none⟩) (by simp; omega)).trans ((World.cell?_alloc_lt _ _ _ l8).trans y5)
          have z0 : u9.cell? ⟨u8.heap.size, 0, none⟩ = some (.int .i64 p) := (hb.cell (p := ⟨u8.heap.size, 0, none⟩) (by simp)).trans (by simp)
          have z1 : u9.cell? ⟨u8.heap.size, 1, none⟩ = some (.int .i64 a2) := (hb.cell (p := ⟨u8.heap.size, 1, none⟩) (by simp)).trans (by simp)
          have z2 : u9.cell? ⟨u8.heap.size, 2, none⟩ = some (.int .i64 a3) := (hb.cell (p := ⟨u8.heap.size, 2, none⟩) (by simp)).trans (by simp)
          have z3 : u9.cell? ⟨u8.heap.size, 3, none⟩ = some (.bool true) := (hb.cell (p := ⟨u8.heap.size, 3, none⟩) (by simp)).trans (by simp)
          have z4 : u9.cell? ⟨u8.heap.size, 4, none⟩ = some (.bool true) := (hb.cell (p := ⟨u8.heap.size, 4, none⟩) (by simp)).trans (by simp)
          have z5 : u9.cell? ⟨u8.heap.size, 5, none⟩ = some (.int .i64 a4) := (hb.cell (p := ⟨u8.heap.size, 5, none⟩) (by simp)).trans (by simp)
          have l9 : u8.heap.size < u9.heap.size := Nat.lt_of_lt_of_le (by simp) hb.size
          have M9b : Hid (Own w (u9.alloc (.cells #[.int .i64 0, .int .i64 0, .int .i64 0, .bool false, .bool false, .int .i64 0] 24)) w.heap.size T) := M9.out.grow (Go.Joins.below_alloc1 _ _)
          clear hb M8b y0 y1 y2 y3 y4 y5 M9
          go_wp2_with fail
          refine (AW.out _).mono ?_
          rintro e v1 ⟨rfl, hb⟩
          have N1 : Hid (Own w v1 w.heap.size T) := M9b.out.grow hb
          have y0 : v1.cell? ⟨u6.heap.size, 0, none⟩ = some (.int .i64 p) := (hb.cell (p := ⟨u6.heap.size, 0, none⟩) (by simp; omega)).trans ((World.cell?_alloc_lt _ _ _ (by show u6.heap.size < u9.heap.size; omega)).trans x0)
          have y1 : v1.cell? ⟨u6.heap.size, 1, none⟩ = some (.int .i64 a2) := (hb.cell (p := ⟨u6.heap.size, 1, none⟩) (by simp; omega)).trans ((World.cell?_alloc_lt _ _ _ (by show u6.heap.size < u9.heap.size; omega)).trans x1)
          have y2 : v1.cell? ⟨u6.heap.size, 2, none⟩ = some (.int .i64 a3) := (hb.cell (p := ⟨u6.heap.size, 2, none⟩) (by simp; omega)).trans ((World.cell?_alloc_lt _ _ _ (by show u6.heap.size < u9.heap.size; omega)).trans x2)
          have y3 : v1.cell? ⟨u6.heap.size, 3, none⟩ = some (.bool true) := (hb.cell (p := ⟨u6.heap.size, 3, none⟩) (by simp; omega)).trans ((World.cell?_alloc_lt _ _ _ (by show u6.heap.size < u9.heap.size; omega)).trans x3)
          have y4 : v1.cell? ⟨u6.heap.size, 4, none⟩ = some (.bool true) := (hb.cell (p := ⟨u6.heap.size, 4, none⟩) (by simp; omega)).trans ((World.cell?_alloc_lt _ _ _ (by show u6.heap.size < u9.heap.size; omega)).trans x4)
          have y5 : v1.cell? ⟨u6.heap.size, 5, none⟩ = some (.int .i64 a4) := (hb.cell (p := ⟨u6.heap.size, 5, none⟩) (by simp; omega)).trans ((World.cell?_alloc_lt _ _ _ (by show u6.heap.size < u9.heap.size; omega)).trans x5)
          have q0 : v1.cell? ⟨u8.heap.size, 0, none⟩ = some (.int .i64 p) := (hb.cell (p := ⟨u8.heap.size, 0, none⟩) (by simp; omega)).trans ((World.cell?_alloc_lt _ _ _ l9).trans z0)
          have q1 : v1.cell? ⟨u8.heap.size, 1, none⟩ = some (.int .i64 a2) := (hb.cell (p := ⟨u8.heap.size, 1, none⟩) (by simp; omega)).trans ((World.cell?_alloc_lt _ _ _ l9).trans z1)
          have q2 : v1.cell? ⟨u8.heap.size, 2, none⟩ = some (.int .i64 a3) := (hb.cell (p := ⟨u8.heap.size, 2, none⟩) (by simp; omega)).trans ((World.cell?_alloc_lt _ _ _ l9).trans z2)
          have q3 : v1.cell? ⟨u8.heap.size, 3, none⟩ = some (.bool true) := (hb.cell (p := ⟨u8.heap.size, 3, none⟩) (by simp; omega)).trans ((World.cell?_alloc_lt _ _ _ l9).trans z3)
          have q4 : v1.cell? ⟨u8.heap.size, 4, none⟩ = some (.bool true) := (hb.cell (p := ⟨u8.heap.size, 4, none⟩) (by simp; omega)).trans ((World.cell?_alloc_lt _ _ _ l9).trans z4)
          have q5 : v1.cell? ⟨u8.heap.size, 5, none⟩ = some (.int .i64 a4) := (hb.cell (p := ⟨u8.heap.size, 5, none⟩) (by simp; omega)).trans ((World.cell?_alloc_lt _ _ _ l9).trans z5)
          clear hb M9b x0 x1 x2 x3 x4 x5 z0 z1 z2 z3 z4 z5
          go_wp2_with fail
          refine (OT.out _ N1.out.1).mono ?_
          rintro e v2 ⟨⟨s2, c2, rfl⟩, hb⟩
          have N2 : Hid (Own w v2 w.heap.size T) := N1.out.grow hb
          clear hb N1 y0 y1 y2 y3 y4 y5 q0 q1 q2 q3 q4 q5
          go_wp2_with fail
          refine (LT.out _ N2.out.1).mono ?_
          rintro e v3 ⟨rfl, hb⟩
          have N3 : Hid (Own w v3 w.heap.size T) := N2.out.grow hb
          clear hb N2
          go_wp2_with fail
          go_ret
          exact ⟨rfl, N3.out.2.1⟩
      · obtain ⟨q1, q2, q3⟩ := fo hE
        rw [q1, q2, q3] at of
        have OFT : Hid _ := of
        clear of q1 q2 q3 gt lx AC LV RV GT LE OL fo rd hE
        rcases hQ with ⟨hq, hq2⟩ | hq
        · have hd : decide ((k : Int) < (n0 : Int)) = true := by simp; omega
          have hd2 : decide ((k : Int) < 30) = false := by simp; omega
          go_wp2_with fail
          refine (OT.out _ hM1.out.1).mono ?_
          rintro e u1 ⟨⟨s1, c1, rfl⟩, hb⟩
          have M1 : Hid (Own w u1 w.heap.size T) := hM1.out.grow hb
          clear hb hM1
          go_wp2_with fail
          refine (LT.out _ M1.out.1).mono ?_
          rintro e u2 ⟨rfl, hb⟩
          have M2 : Hid (Own w u2 w.heap.size T) := M1.out.grow hb
          clear hb M1
          go_wp2_with fail
          refine (OFT.out _ M2.out.1).mono ?_
          rintro e u3 ⟨rfl, h1, h2⟩
          have M3 : Hid (Own w u3 w.heap.size T) := M2.out.next h1 h2
          clear h1 h2 M2
          go_wp2_with fail
          refine (AW.out _).mono ?_
          rintro e u4 ⟨rfl, hb⟩
          have M4 : Hid (Own w u4 w.heap.size T) := M3.out.grow hb
          clear hb M3
          go_wp2_with fail
          refine (OT.out _ M4.out.1).mono ?_
          rintro e u5 ⟨⟨s2, c2, rfl⟩, hb⟩
          have M5 : Hid (Own w u5 w.heap.size T) := M4.out.grow hb
          clear hb M4
          go_wp2_with fail
          go_ret
          exact ⟨rfl, M5.out.2.1⟩
        · have hd : decide ((k : Int) < (n0 : Int)) = false := by simp; omega
          go_wp2_with fail
          refine (OT.out _ hM1.out.1).mono ?_
          rintro e u1 ⟨⟨s1, c1, rfl⟩, hb⟩
          have M1 : Hid (Own w u1 w.heap.size T) := hM1.out.grow hb
          clear hb hM1
          go_wp2_with fail
          refine (LT.out _ M1.out.1).mono ?_
          rintro e u2 ⟨rfl, hb⟩
          have M2 : Hid (Own w u2 w.heap.size T) := M1.out.grow hb
          clear hb M1
          go_wp2_with fail
          refine (OFT.out _ M2.out.1).mono ?_
          rintro e u3 ⟨rfl, h1, h2⟩
          have M3 : Hid (Own w u3 w.heap.size T) := M2.out.next h1 h2
          clear h1 h2 M2
          go_wp2_with fail
          refine (AW.out _).mono ?_
          rintro e u4 ⟨rfl, hb⟩
          have M4 : Hid (Own w u4 w.heap.size T) := M3.out.grow hb
          clear hb M3
          go_wp2_with fail
          refine (OT.out _ M4.out.1).mono ?_
          rintro e u5 ⟨⟨s2, c2, rfl⟩, hb⟩
          have M5 : Hid (Own w u5 w.heap.size T) := M4.out.grow hb
          clear hb M4
          go_wp2_with fail
          go_ret
          exact ⟨rfl, M5.out.2.1⟩

theorem own : ownKnob Try.prog.godebug = none := by kernel_rfl
theorem laidOut : laidOutB Try.prog = true := by kernel_rfl
set_option maxRecDepth 100000 in
theorem lifted (os : Os) (started : os.Started) (H : Type) (enc : TypeId × Value → H) :
    ReturnsInHanded {} Try.checked os 6 .any (Rows.shareRoundSpec.pre6 enc Try.prog Try.f6 Rows.shareRoundRow.domain false) (Rows.shareRoundSpec.post enc Try.prog Try.f6 false true false false) := by
  refine returnsInHanded_of_change (C := Try.checked) own started (by kernel_rfl) Try.func6
    (ChangeSpec.witness6 (enc := enc) (C := Try.checked) false ⟨#[], #[.slice none 0 0, .int .i64 0, .int .i64 0, .int .i64 0, .int .i64 0], []⟩ 8 (by kernel_rfl) (by kernel_rfl) (by kernel_rfl) (by kernel_rfl)) ?_
  intro W base args ds gs before hval0 hW hcnd _
  have hval : ∀ (j : Nat) t v, Try.f6.params[j]? = some t → args[j]? = some v → Value.okWide Try.prog W .any base t v := hval0
  have hW' := hW
  obtain ⟨p, q, hA0, hV, hbef, hfz, hnd⟩ := hW
  have hA : DataW.TrodAll enc Try.prog W 0 (fun _ => true) true Try.f6.params.toList args.toList ds p := hA0
  have hAk := hA
  have hlt : ∀ x ∈ p, x.block < W.heap.size := fun x hx => hW'.lt x (by rw [hbef]; exact List.mem_append_left _ hx)
  rw [Try.params6] at hA hval
  obtain ⟨v0, vs0, d0, ds0, p0, q0, hargs, rfl, hp0, h0, r0⟩ := trodAll_cons hA
  obtain ⟨v1, vs1, d1, ds1, p1, q1, rfl, rfl, hp1, h1, r1⟩ := trodAll_cons r0
  obtain ⟨v2, vs2, d2, ds2, p2, q2, rfl, rfl, hp2, h2, r2⟩ := trodAll_cons r1
  obtain ⟨v3, vs3, d3, ds3, p3, q3, rfl, rfl, hp3, h3, r3⟩ := trodAll_cons r2
  obtain ⟨v4, vs4, d4, ds4, p4, q4, rfl, rfl, hp4, h4, r4⟩ := trodAll_cons r3
  obtain ⟨rfl, rfl, hpz⟩ := trodAll_nil r4
  obtain rfl : args = #[v0, v1, v2, v3, v4] := by cases args; simp_all
  obtain ⟨rfl, rfl⟩ := trodVars_none hV
  obtain ⟨p0, n0, c0, A0, rfl, m0, H0⟩ := open_acts (hval 0 22 v0 rfl rfl) h0
  obtain ⟨a1, rfl, _, _, w1⟩ := open_int Try.underlying3 (hval 1 3 v1 rfl rfl) h1
  obtain ⟨a2, rfl, _, _, w2⟩ := open_int Try.underlying3 (hval 2 3 v2 rfl rfl) h2
  obtain ⟨a3, rfl, _, _, w3⟩ := open_int Try.underlying3 (hval 3 3 v3 rfl rfl) h3
  obtain ⟨a4, rfl, _, _, w4⟩ := open_int Try.underlying3 (hval 4 3 v4 rfl rfl) h4
  clear hA0 hval0
  refine (walk p0 n0 c0 A0 m0 a1 w1 a2 w2 a3 w3 a4 w4 W H0).mono fun e W' ⟨he, hg⟩ => ?_
  subst he
  exact ⟨_, rfl, ⟨_, _, _, [], p, [], hW', (trodAll_cons_mk (shut_bool Try.underlying4 _) trodAll_mk0), args_stay laidOut hg (by kernel_rfl) hAk hlt, rfl, hg.frame _, fun h => by cases h⟩⟩

theorem over : Rows.shareRoundRow.holds Try.pinned (OpenSpec.ofChange Rows.shareRoundSpec) :=
  OpenClaim.holds_of_wide 6 Try.f6 rfl rfl rfl rfl rfl rfl rfl ⟨rfl, rfl, rfl, rfl, rfl⟩ rfl rfl rfl rfl rfl (by kernel_rfl) Try.func6 (by kernel_rfl)
    (of_decide_eq_true (by kernel_rfl)) (by unfold Func.isWrapper; first | (rw [if_pos (by decide +kernel)]; kernel_rfl) | (rw [if_neg (by decide +kernel)]; exact ⟨rfl, rfl⟩))
    (fun os started H enc _ => lifted os started H enc)

theorem proved : Rows.ShareRoundSaid :=
  over
#print axioms proved
end Go.Proofs.Ytenfdcjnfgjilaa.shareRound
