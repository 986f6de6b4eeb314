/- For any calls, number, process and page: who has nothing to do with a grant can do nothing with it; behind any 40 calls; no condition. -/
import Derived.Test.YtenfdcjnfgjilaaRows
import Derived.ProofKit
import Derived.OpenShut
import Derived.Carry
import Derived.Test.YtenfdcjnfgjilaaS9
import Derived.Test.YtenfdcjnfgjilaaSX
namespace Go.Proofs.Ytenfdcjnfgjilaa.shareOwners
open Go.ChangeShapes Go.WideShapes Go.ChangeAt Go.RowKit Go.Maps
set_option linter.unusedSimpArgs false
set_option linter.unusedVariables false

set_option maxRecDepth 8000 in
set_option maxHeartbeats 32000000 in
theorem walk (p0 : Option Addr) (n0 c0 : Nat) (A0 : Nat → Ac) (m0 : n0 ≤ maxLen) (a1 : Int) (w1 : (Lit.int .i64 a1).wf = true) (a2 : Int) (w2 : (Lit.int .i64 a2).wf = true) (a3 : Int) (w3 : (Lit.int .i64 a3).wf = true) (w : World) (H0 : IsActs w p0 n0 A0) :
    Calls Try.prog 7 #[.slice p0 n0 c0, .int .i64 a1, .int .i64 a2, .int .i64 a3] w fun e w' => e = .returned (.bool true) ∧ Below w.heap.size w w' := by
  have AW : Hid (∀ W : World, Calls Try.prog 8 #[] W fun e w' => e = .returned (.bool true) ∧ Below W.heap.size W w') := fun W => awake_any W
  have DO : Hid (∀ (T : Nat → Gr) (K A B P : Int) (X : Bool) (W : World), IsTab W w.heap.size T → Calls Try.prog 9 #[.pointer (some ⟨w.heap.size, 0, none⟩), .slice none 0 0, .agg #[.int .i64 K, .int .i64 A, .int .i64 B, .int .i64 P, .bool X]] W fun e w' => (∃ v, e = .returned v) ∧ IsTab w' w.heap.size (doesT T K A B P X) ∧ W.grownBy w' (some w.heap.size)) := fun T K A B P X W h => does_nil w.heap.size T K A B P X W h
  obtain ⟨Zs, hz, hs, hzz⟩ := zeroT
  have M : Hid (Own w (w.alloc (.cells Zs 27)) w.heap.size zT) := ⟨IsTab.made w Zs hs hzz, Go.Joins.below_alloc1 _ _, Nat.le_refl _⟩
  have HA : Hid (IsActs w p0 n0 A0) := H0
  have GT : Hid (∀ (T : Nat → Gr) (W : World), IsTab W w.heap.size T → Calls Try.prog 14 #[.pointer (some ⟨w.heap.size, 0, none⟩), .int .i64 a1] W fun e w' => e = .returned (.tuple #[(getG T a1).val, .bool (getG T a1).is]) ∧ Below W.heap.size W w') := fun T W h => get_any w.heap.size T a1 W h
  have RV : Hid (∀ (T : Nat → Gr), ((getG T a1).is = false ∨ (getG T a1).fr ≠ a2) → ∀ W : World, IsTab W w.heap.size T → Calls Try.prog 18 #[.pointer (some ⟨w.heap.size, 0, none⟩), .int .i64 a1, .int .i64 a2] W fun e w' => e = .returned (.tuple #[.agg #[.int .i64 0, .int .i64 0, .int .i64 0, .bool false, .bool false, .int .i64 0], .int .i64 5]) ∧ IsTab w' w.heap.size T ∧ W.grownBy w' (some w.heap.size)) := fun T hc W h => by
    have := revoke_any w.heap.size T a1 a2 W h
    rw [(rev5 hc).1, (rev5 hc).2.1, (rev5 hc).2.2] at this; exact this
  have LV : Hid (∀ (T : Nat → Gr), ((getG T a1).is = false ∨ (getG T a1).dst ≠ a2) → ∀ W : World, IsTab W w.heap.size T → Calls Try.prog 21 #[.pointer (some ⟨w.heap.size, 0, none⟩), .int .i64 a1, .int .i64 a2] W fun e w' => e = .returned (.tuple #[.agg #[.int .i64 0, .int .i64 0, .int .i64 0, .bool false, .bool false, .int .i64 0], .int .i64 5]) ∧ IsTab w' w.heap.size T ∧ W.grownBy w' (some w.heap.size)) := fun T hc W h => by
    have hc' : (getG T a1).is = false ∨ (getG T a1).dst ≠ a2 ∨ (getG T a1).tk = false := hc.elim Or.inl (fun e => Or.inr (Or.inl e))
    have := leave_any w.heap.size T a1 a2 W h
    rw [(lea5 hc').1, (lea5 hc').2.1, (lea5 hc').2.2] at this; exact this
  have AC : Hid (∀ (T : Nat → Gr), ((getG T a1).is = false ∨ (getG T a1).dst ≠ a2) → ∀ W : World, IsTab W w.heap.size T → Calls Try.prog 20 #[.pointer (some ⟨w.heap.size, 0, none⟩), .int .i64 a1, .int .i64 a2, .int .i64 a3] W fun e w' => e = .returned (.int .i64 5) ∧ IsTab w' w.heap.size T ∧ W.grownBy w' (some w.heap.size)) := fun T hc W h => by
    have := accept_any w.heap.size T a1 a2 a3 W h
    rw [(acc5 (a := a3) hc).1, (acc5 (a := a3) hc).2] at this; exact this
  clear H0 hs hzz
  have mm : (n0 : Int) ≤ 9223372036854775807 := by have : maxLen ≤ 9223372036854775807 := by decide +kernel
                                                   omega
  go_enter Try.func7, Try.ntmps7
  go_wp2_with fail
  go_loopw [10] (fun x W => ∃ (k : Nat) (T : Nat → Gr), k ≤ n0 ∧ k ≤ 40 ∧ x = .int .i64 k ∧ Hid (Own w W w.heap.size T)) (fun x _ => 40 - (intOf x).toNat)
  case atStart => exact ⟨0, _, by omega, by omega, rfl, M⟩
  case round =>
    obtain ⟨k, T, hk, hk6, rfl, hM⟩ := hrel
    by_cases hlt : k < n0 ∧ k < 40
    · have hd : decide ((k : Int) < (n0 : Int)) = true := by simp; omega
      have hd2 : decide ((k : Int) < 40) = true := by simp; omega
      obtain ⟨b, o, rfl, lb, cc, _⟩ := HA.out k hlt.1
      generalize A0 k = ac at cc
      obtain ⟨ak, aa, ab, ap, ax⟩ := ac
      have lb' : b < wr.heap.size := Nat.lt_of_lt_of_le lb hM.out.2.1.size
      have c0 : wr.cell? ⟨b, o + k * 5, none⟩ = some (.int .i64 ak) := (hM.out.2.1.cell (p := ⟨b, _, none⟩) lb).trans (cc 0 _ rfl)
      have c1 : wr.cell? ⟨b, o + k * 5 + 1, none⟩ = some (.int .i64 aa) := (hM.out.2.1.cell (p := ⟨b, _, none⟩) lb).trans (cc 1 _ rfl)
      have c2 : wr.cell? ⟨b, o + k * 5 + 2, none⟩ = some (.int .i64 ab) := (hM.out.2.1.cell (p := ⟨b, _, none⟩) lb).trans (cc 2 _ rfl)
      have c3 : wr.cell? ⟨b, o + k * 5 + 3, none⟩ = some (.int .i64 ap) := (hM.out.2.1.cell (p := ⟨b, _, none⟩) lb).trans (cc 3 _ rfl)
      have c4 : wr.cell? ⟨b, o + k * 5 + 4, none⟩ = some (.bool ax) := (hM.out.2.1.cell (p := ⟨b, _, none⟩) lb).trans (cc 4 _ rfl)
      clear cc lb
      go_wp2_with fail
      refine (DO.out T ak aa ab ap ax _ hM.out.1).mono ?_
      rintro e u1 ⟨⟨v, rfl⟩, h1, h2⟩
      have M1 : Hid (Own w u1 w.heap.size (doesT T ak aa ab ap ax)) := hM.out.next h1 h2
      clear h1 h2 c0 c1 c2 c3 c4 lb'
      go_wp2_with fail
      go_roundw
      case rel => exact ⟨k + 1, _, by omega, by omega, by go_num, M1⟩
      case measure => simp [intOf]; omega
    · have hM1 : Hid (Own w wr w.heap.size T) := hM
      clear hM DO HA
      have gt := GT.out T
      have rv := RV.out T
      have lv := LV.out T
      have ac := AC.out T
      clear GT RV LV AC
      generalize getG T a1 = g at gt rv lv ac
      generalize g.is = gi at gt rv lv ac
      obtain ⟨gf, gp, gd, gw, gtk, ga⟩ := g
      simp only at rv lv ac gt
      have GT : Hid _ := gt
      clear gt
      have hQ : (k < n0 ∧ ¬ k < 40) ∨ ¬ k < n0 := by omega
      clear hlt
      rcases hQ with ⟨hq, hq2⟩ | hq
      · have hd : decide ((k : Int) < (n0 : Int)) = true := by simp; omega
        have hd2 : decide ((k : Int) < 40) = false := by simp; omega
        cases gi
        · have rv := rv (Or.inl rfl)
          have lv := lv (Or.inl rfl)
          have ac := ac (Or.inl rfl)
          have RV : Hid _ := rv
          have LV : Hid _ := lv
          have AC : Hid _ := ac
          clear rv lv ac
          by_cases c1 : gf = a2
          · have e1 : (gf == a2) = true := by simp [c1]
            have e2 : (gf != a2) = false := by simp [c1]
            clear c1
            by_cases c2 : gd = a2
            · have e3 : (gd == a2) = true := by simp [c2]
              have e4 : (gd != a2) = false := by simp [c2]
              clear c2
              go_wp2_with fail
              refine (GT.out _ hM1.out.1).mono ?_
              rintro e u1 ⟨rfl, hb1⟩
              have M1 : Hid (Own w u1 w.heap.size T) := hM1.out.grow hb1
              have l1 : w.heap.size < u1.heap.size := M1.out.1.2.2
              have M2 : Hid (Own w (u1.alloc (.cells #[.int .i64 gf, .int .i64 gp, .int .i64 gd, .bool gw, .bool gtk, .int .i64 ga] 24)) w.heap.size T) := M1.out.grow (Go.Joins.below_alloc1 _ _)
              clear hb1 hM1
              go_wp2_with fail
              refine (RV.out _ M2.out.1).mono ?_
              rintro e u3 ⟨rfl, h1, h2⟩
              have M3 : Hid (Own w u3 w.heap.size T) := M2.out.next h1 h2
              have z0 : u3.cell? ⟨u1.heap.size, 0, none⟩ = some (.int .i64 gf) := cell_grown h2 (by simp) (by omega) (by simp)
              have z1 : u3.cell? ⟨u1.heap.size, 1, none⟩ = some (.int .i64 gp) := cell_grown h2 (by simp) (by omega) (by simp)
              have z2 : u3.cell? ⟨u1.heap.size, 2, none⟩ = some (.int .i64 gd) := cell_grown h2 (by simp) (by omega) (by simp)
              have z3 : u3.cell? ⟨u1.heap.size, 3, none⟩ = some (.bool gw) := cell_grown h2 (by simp) (by omega) (by simp)
              have z4 : u3.cell? ⟨u1.heap.size, 4, none⟩ = some (.bool gtk) := cell_grown h2 (by simp) (by omega) (by simp)
              have z5 : u3.cell? ⟨u1.heap.size, 5, none⟩ = some (.int .i64 ga) := cell_grown h2 (by simp) (by omega) (by simp)
              have lz : u1.heap.size < u3.heap.size := Nat.lt_of_lt_of_le (by simp) h2.size
              have y0 := z0
              have y1 := z1
              have y2 := z2
              have y3 := z3
              have y4 := z4
              have y5 := z5
              have ly := lz
              clear z0 z1 z2 z3 z4 z5 lz
              clear h1 h2
              have M4 : Hid (Own w (u3.alloc (.cells #[.int .i64 0, .int .i64 0, .int .i64 0, .bool false, .bool false, .int .i64 0] 24)) w.heap.size T) := M3.out.grow (Go.Joins.below_alloc1 _ _)
              go_wp2_with fail
              refine (LV.out _ M4.out.1).mono ?_
              rintro e u5 ⟨rfl, h1, h2⟩
              have M5 : Hid (Own w u5 w.heap.size T) := M4.out.next h1 h2
              have z0 : u5.cell? ⟨u1.heap.size, 0, none⟩ = some (.int .i64 gf) := cell_grown h2 (by first | omega | (simp; omega)) (by omega) (by first | exact y0 | exact (World.cell?_alloc_lt _ _ _ ly).trans y0)
              have z1 : u5.cell? ⟨u1.heap.size, 1, none⟩ = some (.int .i64 gp) := cell_grown h2 (by first | omega | (simp; omega)) (by omega) (by first | exact y1 | exact (World.cell?_alloc_lt _ _ _ ly).trans y1)
              have z2 : u5.cell? ⟨u1.heap.size, 2, none⟩ = some (.int .i64 gd) := cell_grown h2 (by first | omega | (simp; omega)) (by omega) (by first | exact y2 | exact (World.cell?_alloc_lt _ _ _ ly).trans y2)
              have z3 : u5.cell? ⟨u1.heap.size, 3, none⟩ = some (.bool gw) := cell_grown h2 (by first | omega | (simp; omega)) (by omega) (by first | exact y3 | exact (World.cell?_alloc_lt _ _ _ ly).trans y3)
              have z4 : u5.cell? ⟨u1.heap.size, 4, none⟩ = some (.bool gtk) := cell_grown h2 (by first | omega | (simp; omega)) (by omega) (by first | exact y4 | exact (World.cell?_alloc_lt _ _ _ ly).trans y4)
              have z5 : u5.cell? ⟨u1.heap.size, 5, none⟩ = some (.int .i64 ga) := cell_grown h2 (by first | omega | (simp; omega)) (by omega) (by first | exact y5 | exact (World.cell?_alloc_lt _ _ _ ly).trans y5)
              have lz : u1.heap.size < u5.heap.size := Nat.lt_of_lt_of_le (by first | omega | (simp; omega)) h2.size
              clear y0 y1 y2 y3 y4 y5 ly
              have y0 := z0
              have y1 := z1
              have y2 := z2
              have y3 := z3
              have y4 := z4
              have y5 := z5
              have ly := lz
              clear z0 z1 z2 z3 z4 z5 lz
              clear h1 h2
              have M6 : Hid (Own w (u5.alloc (.cells #[.int .i64 0, .int .i64 0, .int .i64 0, .bool false, .bool false, .int .i64 0] 24)) w.heap.size T) := M5.out.grow (Go.Joins.below_alloc1 _ _)
              go_wp2_with fail
              refine (AC.out _ M6.out.1).mono ?_
              rintro e u7 ⟨rfl, h1, h2⟩
              have M7 : Hid (Own w u7 w.heap.size T) := M6.out.next h1 h2
              have z0 : u7.cell? ⟨u1.heap.size, 0, none⟩ = some (.int .i64 gf) := cell_grown h2 (by first | omega | (simp; omega)) (by omega) (by first | exact y0 | exact (World.cell?_alloc_lt _ _ _ ly).trans y0)
              have z1 : u7.cell? ⟨u1.heap.size, 1, none⟩ = some (.int .i64 gp) := cell_grown h2 (by first | omega | (simp; omega)) (by omega) (by first | exact y1 | exact (World.cell?_alloc_lt _ _ _ ly).trans y1)
              have z2 : u7.cell? ⟨u1.heap.size, 2, none⟩ = some (.int .i64 gd) := cell_grown h2 (by first | omega | (simp; omega)) (by omega) (by first | exact y2 | exact (World.cell?_alloc_lt _ _ _ ly).trans y2)
              have z3 : u7.cell? ⟨u1.heap.size, 3, none⟩ = some (.bool gw) := cell_grown h2 (by first | omega | (simp; omega)) (by omega) (by first | exact y3 | exact (World.cell?_alloc_lt _ _ _ ly).trans y3)
              have z4 : u7.cell? ⟨u1.heap.size, 4, none⟩ = some (.bool gtk) := cell_grown h2 (by first | omega | (simp; omega)) (by omega) (by first | exact y4 | exact (World.cell?_alloc_lt _ _ _ ly).trans y4)
              have z5 : u7.cell? ⟨u1.heap.size, 5, none⟩ = some (.int .i64 ga) := cell_grown h2 (by first | omega | (simp; omega)) (by omega) (by first | exact y5 | exact (World.cell?_alloc_lt _ _ _ ly).trans y5)
              have lz : u1.heap.size < u7.heap.size := Nat.lt_of_lt_of_le (by first | omega | (simp; omega)) h2.size
              clear y0 y1 y2 y3 y4 y5 ly
              have y0 := z0
              have y1 := z1
              have y2 := z2
              have y3 := z3
              have y4 := z4
              have y5 := z5
              have ly := lz
              clear z0 z1 z2 z3 z4 z5 lz
              clear h1 h2
              go_wp2_with fail
              refine (GT.out _ M7.out.1).mono ?_
              rintro e u8 ⟨rfl, hb⟩
              have M8 : Hid (Own w u8 w.heap.size T) := M7.out.grow hb
              have z0 : u8.cell? ⟨u1.heap.size, 0, none⟩ = some (.int .i64 gf) := (hb.cell (p := ⟨u1.heap.size, 0, none⟩) (by first | omega | (simp; omega))).trans (by first | exact y0 | exact (World.cell?_alloc_lt _ _ _ ly).trans y0)
              have z1 : u8.cell? ⟨u1.heap.size, 1, none⟩ = some (.int .i64 gp) := (hb.cell (p := ⟨u1.heap.size, 1, none⟩) (by first | omega | (simp; omega))).trans (by first | exact y1 | exact (World.cell?_alloc_lt _ _ _ ly).trans y1)
              have z2 : u8.cell? ⟨u1.heap.size, 2, none⟩ = some (.int .i64 gd) := (hb.cell (p := ⟨u1.heap.size, 2, none⟩) (by first | omega | (simp; omega))).trans (by first | exact y2 | exact (World.cell?_alloc_lt _ _ _ ly).trans y2)
              have z3 : u8.cell? ⟨u1.heap.size, 3, none⟩ = some (.bool gw) := (hb.cell (p := ⟨u1.heap.size, 3, none⟩) (by first | omega | (simp; omega))).trans (by first | exact y3 | exact (World.cell?_alloc_lt _ _ _ ly).trans y3)
              have z4 : u8.cell? ⟨u1.heap.size, 4, none⟩ = some (.bool gtk) := (hb.cell (p := ⟨u1.heap.size, 4, none⟩) (by first | omega | (simp; omega))).trans (by first | exact y4 | exact (World.cell?_alloc_lt _ _ _ ly).trans y4)
              have z5 : u8.cell? ⟨u1.heap.size, 5, none⟩ = some (.int .i64 ga) := (hb.cell (p := ⟨u1.heap.size, 5, none⟩) (by first | omega | (simp; omega))).trans (by first | exact y5 | exact (World.cell?_alloc_lt _ _ _ ly).trans y5)
              have lz : u1.heap.size < u8.heap.size := Nat.lt_of_lt_of_le (by first | omega | (simp; omega)) hb.size
              clear y0 y1 y2 y3 y4 y5 ly
              have y0 := z0
              have y1 := z1
              have y2 := z2
              have y3 := z3
              have y4 := z4
              have y5 := z5
              have ly := lz
              clear z0 z1 z2 z3 z4 z5 lz
              clear hb
              have M9 : Hid (Own w (u8.alloc (.cells #[.int .i64 gf, .int .i64 gp, .int .i64 gd, .bool gw, .bool gtk, .int .i64 ga] 24)) w.heap.size T) := M8.out.grow (Go.Joins.below_alloc1 _ _)
              go_wp2_with fail
              refine (AW.out _).mono ?_
              rintro e u9 ⟨rfl, hb⟩
              have MA : Hid (Own w u9 w.heap.size T) := M9.out.grow hb
              have z0 : u9.cell? ⟨u1.heap.size, 0, none⟩ = some (.int .i64 gf) := (hb.cell (p := ⟨u1.heap.size, 0, none⟩) (by first | omega | (simp; omega))).trans (by first | exact y0 | exact (World.cell?_alloc_lt _ _ _ ly).trans y0)
              have x0 : u9.cell? ⟨u8.heap.size, 0, none⟩ = some (.int .i64 gf) := (hb.cell (p := ⟨u8.heap.size, 0, none⟩) (by simp)).trans (by simp)
              have z1 : u9.cell? ⟨u1.heap.size, 1, none⟩ = some (.int .i64 gp) := (hb.cell (p := ⟨u1.heap.size, 1, none⟩) (by first | omega | (simp; omega))).trans (by first | exact y1 | exact (World.cell?_alloc_lt _ _ _ ly).trans y1)
              have x1 : u9.cell? ⟨u8.heap.size, 1, none⟩ = some (.int .i64 gp) := (hb.cell (p := ⟨u8.heap.size, 1, none⟩) (by simp)).trans (by simp)
              have z2 : u9.cell? ⟨u1.heap.size, 2, none⟩ = some (.int .i64 gd) := (hb.cell (p := ⟨u1.heap.size, 2, none⟩) (by first | omega | (simp; omega))).trans (by first | exact y2 | exact (World.cell?_alloc_lt _ _ _ ly).trans y2)
              have x2 : u9.cell? ⟨u8.heap.size, 2, none⟩ = some (.int .i64 gd) := (hb.cell (p := ⟨u8.heap.size, 2, none⟩) (by simp)).trans (by simp)
              have z3 : u9.cell? ⟨u1.heap.size, 3, none⟩ = some (.bool gw) := (hb.cell (p := ⟨u1.heap.size, 3, none⟩) (by first | omega | (simp; omega))).trans (by first | exact y3 | exact (World.cell?_alloc_lt _ _ _ ly).trans y3)
              have x3 : u9.cell? ⟨u8.heap.size, 3, none⟩ = some (.bool gw) := (hb.cell (p := ⟨u8.heap.size, 3, none⟩) (by simp)).trans (by simp)
              have z4 : u9.cell? ⟨u1.heap.size, 4, none⟩ = some (.bool gtk) := (hb.cell (p := ⟨u1.heap.size, 4, none⟩) (by first | omega | (simp; omega))).trans (by first | exact y4 | exact (World.cell?_alloc_lt _ _ _ ly).trans y4)
              have x4 : u9.cell? ⟨u8.heap.size, 4, none⟩ = some (.bool gtk) := (hb.cell (p := ⟨u8.heap.size, 4, none⟩) (by simp)).trans (by simp)
              have z5 : u9.cell? ⟨u1.heap.size, 5, none⟩ = some (.int .i64 ga) := (hb.cell (p := ⟨u1.heap.size, 5, none⟩) (by first | omega | (simp; omega))).trans (by first | exact y5 | exact (World.cell?_alloc_lt _ _ _ ly).trans y5)
              have x5 : u9.cell? ⟨u8.heap.size, 5, none⟩ = some (.int .i64 ga) := (hb.cell (p := ⟨u8.heap.size, 5, none⟩) (by simp)).trans (by simp)
              clear hb y0 y1 y2 y3 y4 y5
              go_wp2_with fail
              go_ret
              exact ⟨rfl, MA.out.2.1⟩
            · have e3 : (gd == a2) = false := by simp [c2]
              have e4 : (gd != a2) = true := by simp [c2]
              go_wp2_with fail
              refine (GT.out _ hM1.out.1).mono ?_
              rintro e u1 ⟨rfl, hb1⟩
              have M1 : Hid (Own w u1 w.heap.size T) := hM1.out.grow hb1
              have l1 : w.heap.size < u1.heap.size := M1.out.1.2.2
              have M2 : Hid (Own w (u1.alloc (.cells #[.int .i64 gf, .int .i64 gp, .int .i64 gd, .bool gw, .bool gtk, .int .i64 ga] 24)) w.heap.size T) := M1.out.grow (Go.Joins.below_alloc1 _ _)
              clear hb1 hM1
              go_wp2_with fail
              refine (RV.out _ M2.out.1).mono ?_
              rintro e u3 ⟨rfl, h1, h2⟩
              have M3 : Hid (Own w u3 w.heap.size T) := M2.out.next h1 h2
              have z0 : u3.cell? ⟨u1.heap.size, 0, none⟩ = some (.int .i64 gf) := cell_grown h2 (by simp) (by omega) (by simp)
              have z1 : u3.cell? ⟨u1.heap.size, 1, none⟩ = some (.int .i64 gp) := cell_grown h2 (by simp) (by omega) (by simp)
              have z2 : u3.cell? ⟨u1.heap.size, 2, none⟩ = some (.int .i64 gd) := cell_grown h2 (by simp) (by omega) (by simp)
              have z3 : u3.cell? ⟨u1.heap.size, 3, none⟩ = some (.bool gw) := cell_grown h2 (by simp) (by omega) (by simp)
              have z4 : u3.cell? ⟨u1.heap.size, 4, none⟩ = some (.bool gtk) := cell_grown h2 (by simp) (by omega) (by simp)
              have z5 : u3.cell? ⟨u1.heap.size, 5, none⟩ = some (.int .i64 ga) := cell_grown h2 (by simp) (by omega) (by simp)
              have lz : u1.heap.size < u3.heap.size := Nat.lt_of_lt_of_le (by simp) h2.size
              have y0 := z0
              have y1 := z1
              have y2 := z2
              have y3 := z3
              have y4 := z4
              have y5 := z5
              have ly := lz
              clear z0 z1 z2 z3 z4 z5 lz
              clear h1 h2
              have M4 : Hid (Own w (u3.alloc (.cells #[.int .i64 0, .int .i64 0, .int .i64 0, .bool false, .bool false, .int .i64 0] 24)) w.heap.size T) := M3.out.grow (Go.Joins.below_alloc1 _ _)
              go_wp2_with fail
              refine (LV.out _ M4.out.1).mono ?_
              rintro e u5 ⟨rfl, h1, h2⟩
              have M5 : Hid (Own w u5 w.heap.size T) := M4.out.next h1 h2
              have z0 : u5.cell? ⟨u1.heap.size, 0, none⟩ = some (.int .i64 gf) := cell_grown h2 (by first | omega | (simp; omega)) (by omega) (by first | exact y0 | exact (World.cell?_alloc_lt _ _ _ ly).trans y0)
              have z1 : u5.cell? ⟨u1.heap.size, 1, none⟩ = some (.int .i64 gp) := cell_grown h2 (by first | omega | (simp; omega)) (by omega) (by first | exact y1 | exact (World.cell?_alloc_lt _ _ _ ly).trans y1)
              have z2 : u5.cell? ⟨u1.heap.size, 2, none⟩ = some (.int .i64 gd) := cell_grown h2 (by first | omega | (simp; omega)) (by omega) (by first | exact y2 | exact (World.cell?_alloc_lt _ _ _ ly).trans y2)
              have z3 : u5.cell? ⟨u1.heap.size, 3, none⟩ = some (.bool gw) := cell_grown h2 (by first | omega | (simp; omega)) (by omega) (by first | exact y3 | exact (World.cell?_alloc_lt _ _ _ ly).trans y3)
              have z4 : u5.cell? ⟨u1.heap.size, 4, none⟩ = some (.bool gtk) := cell_grown h2 (by first | omega | (simp; omega)) (by omega) (by first | exact y4 | exact (World.cell?_alloc_lt _ _ _ ly).trans y4)
              have z5 : u5.cell? ⟨u1.heap.size, 5, none⟩ = some (.int .i64 ga) := cell_grown h2 (by first | omega | (simp; omega)) (by omega) (by first | exact y5 | exact (World.cell?_alloc_lt _ _ _ ly).trans y5)
              have lz : u1.heap.size < u5.heap.size := Nat.lt_of_lt_of_le (by first | omega | (simp; omega)) h2.size
              clear y0 y1 y2 y3 y4 y5 ly
              have y0 := z0
              have y1 := z1
              have y2 := z2
              have y3 := z3
              have y4 := z4
              have y5 := z5
              have ly := lz
              clear z0 z1 z2 z3 z4 z5 lz
              clear h1 h2
              have M6 : Hid (Own w (u5.alloc (.cells #[.int .i64 0, .int .i64 0, .int .i64 0, .bool false, .bool false, .int .i64 0] 24)) w.heap.size T) := M5.out.grow (Go.Joins.below_alloc1 _ _)
              go_wp2_with fail
              refine (AC.out _ M6.out.1).mono ?_
              rintro e u7 ⟨rfl, h1, h2⟩
              have M7 : Hid (Own w u7 w.heap.size T) := M6.out.next h1 h2
              have z0 : u7.cell? ⟨u1.heap.size, 0, none⟩ = some (.int .i64 gf) := cell_grown h2 (by first | omega | (simp; omega)) (by omega) (by first | exact y0 | exact (World.cell?_alloc_lt _ _ _ ly).trans y0)
              have z1 : u7.cell? ⟨u1.heap.size, 1, none⟩ = some (.int .i64 gp) := cell_grown h2 (by first | omega | (simp; omega)) (by omega) (by first | exact y1 | exact (World.cell?_alloc_lt _ _ _ ly).trans y1)
              have z2 : u7.cell? ⟨u1.heap.size, 2, none⟩ = some (.int .i64 gd) := cell_grown h2 (by first | omega | (simp; omega)) (by omega) (by first | exact y2 | exact (World.cell?_alloc_lt _ _ _ ly).trans y2)
              have z3 : u7.cell? ⟨u1.heap.size, 3, none⟩ = some (.bool gw) := cell_grown h2 (by first | omega | (simp; omega)) (by omega) (by first | exact y3 | exact (World.cell?_alloc_lt _ _ _ ly).trans y3)
              have z4 : u7.cell? ⟨u1.heap.size, 4, none⟩ = some (.bool gtk) := cell_grown h2 (by first | omega | (simp; omega)) (by omega) (by first | exact y4 | exact (World.cell?_alloc_lt _ _ _ ly).trans y4)
              have z5 : u7.cell? ⟨u1.heap.size, 5, none⟩ = some (.int .i64 ga) := cell_grown h2 (by first | omega | (simp; omega)) (by omega) (by first | exact y5 | exact (World.cell?_alloc_lt _ _ _ ly).trans y5)
              have lz : u1.heap.size < u7.heap.size := Nat.lt_of_lt_of_le (by first | omega | (simp; omega)) h2.size
              clear y0 y1 y2 y3 y4 y5 ly
              have y0 := z0
              have y1 := z1
              have y2 := z2
              have y3 := z3
              have y4 := z4
              have y5 := z5
              have ly := lz
              clear z0 z1 z2 z3 z4 z5 lz
              clear h1 h2
              go_wp2_with fail
              refine (GT.out _ M7.out.1).mono ?_
              rintro e u8 ⟨rfl, hb⟩
              have M8 : Hid (Own w u8 w.heap.size T) := M7.out.grow hb
              have z0 : u8.cell? ⟨u1.heap.size, 0, none⟩ = some (.int .i64 gf) := (hb.cell (p := ⟨u1.heap.size, 0, none⟩) (by first | omega | (simp; omega))).trans (by first | exact y0 | exact (World.cell?_alloc_lt _ _ _ ly).trans y0)
              have z1 : u8.cell? ⟨u1.heap.size, 1, none⟩ = some (.int .i64 gp) := (hb.cell (p := ⟨u1.heap.size, 1, none⟩) (by first | omega | (simp; omega))).trans (by first | exact y1 | exact (World.cell?_alloc_lt _ _ _ ly).trans y1)
              have z2 : u8.cell? ⟨u1.heap.size, 2, none⟩ = some (.int .i64 gd) := (hb.cell (p := ⟨u1.heap.size, 2, none⟩) (by first | omega | (simp; omega))).trans (by first | exact y2 | exact (World.cell?_alloc_lt _ _ _ ly).trans y2)
              have z3 : u8.cell? ⟨u1.heap.size, 3, none⟩ = some (.bool gw) := (hb.cell (p := ⟨u1.heap.size, 3, none⟩) (by first | omega | (simp; omega))).trans (by first | exact y3 | exact (World.cell?_alloc_lt _ _ _ ly).trans y3)
              have z4 : u8.cell? ⟨u1.heap.size, 4, none⟩ = some (.bool gtk) := (hb.cell (p := ⟨u1.heap.size, 4, none⟩) (by first | omega | (simp; omega))).trans (by first | exact y4 | exact (World.cell?_alloc_lt _ _ _ ly).trans y4)
              have z5 : u8.cell? ⟨u1.heap.size, 5, none⟩ = some (.int .i64 ga) := (hb.cell (p := ⟨u1.heap.size, 5, none⟩) (by first | omega | (simp; omega))).trans (by first | exact y5 | exact (World.cell?_alloc_lt _ _ _ ly).trans y5)
              have lz : u1.heap.size < u8.heap.size := Nat.lt_of_lt_of_le (by first | omega | (simp; omega)) hb.size
              clear y0 y1 y2 y3 y4 y5 ly
              have y0 := z0
              have y1 := z1
              have y2 := z2
              have y3 := z3
              have y4 := z4
              have y5 := z5
              have ly := lz
              clear z0 z1 z2 z3 z4 z5 lz
              clear hb
              have M9 : Hid (Own w (u8.alloc (.cells #[.int .i64 gf, .int .i64 gp, .int .i64 gd, .bool gw, .bool gtk, .int .i64 ga] 24)) w.heap.size T) := M8.out.grow (Go.Joins.below_alloc1 _ _)
              go_wp2_with fail
              refine (AW.out _).mono ?_
              rintro e u9 ⟨rfl, hb⟩
              have MA : Hid (Own w u9 w.heap.size T) := M9.out.grow hb
              have z0 : u9.cell? ⟨u1.heap.size, 0, none⟩ = some (.int .i64 gf) := (hb.cell (p := ⟨u1.heap.size, 0, none⟩) (by first | omega | (simp; omega))).trans (by first | exact y0 | exact (World.cell?_alloc_lt _ _ _ ly).trans y0)
              have x0 : u9.cell? ⟨u8.heap.size, 0, none⟩ = some (.int .i64 gf) := (hb.cell (p := ⟨u8.heap.size, 0, none⟩) (by simp)).trans (by simp)
              have z1 : u9.cell? ⟨u1.heap.size, 1, none⟩ = some (.int .i64 gp) := (hb.cell (p := ⟨u1.heap.size, 1, none⟩) (by first | omega | (simp; omega))).trans (by first | exact y1 | exact (World.cell?_alloc_lt _ _ _ ly).trans y1)
              have x1 : u9.cell? ⟨u8.heap.size, 1, none⟩ = some (.int .i64 gp) := (hb.cell (p := ⟨u8.heap.size, 1, none⟩) (by simp)).trans (by simp)
              have z2 : u9.cell? ⟨u1.heap.size, 2, none⟩ = some (.int .i64 gd) := (hb.cell (p := ⟨u1.heap.size, 2, none⟩) (by first | omega | (simp; omega))).trans (by first | exact y2 | exact (World.cell?_alloc_lt _ _ _ ly).trans y2)
              have x2 : u9.cell? ⟨u8.heap.size, 2, none⟩ = some (.int .i64 gd) := (hb.cell (p := ⟨u8.heap.size, 2, none⟩) (by simp)).trans (by simp)
              have z3 : u9.cell? ⟨u1.heap.size, 3, none⟩ = some (.bool gw) := (hb.cell (p := ⟨u1.heap.size, 3, none⟩) (by first | omega | (simp; omega))).trans (by first | exact y3 | exact (World.cell?_alloc_lt _ _ _ ly).trans y3)
              have x3 : u9.cell? ⟨u8.heap.size, 3, none⟩ = some (.bool gw) := (hb.cell (p := ⟨u8.heap.size, 3, none⟩) (by simp)).trans (by simp)
              have z4 : u9.cell? ⟨u1.heap.size, 4, none⟩ = some (.bool gtk) := (hb.cell (p := ⟨u1.heap.size, 4, none⟩) (by first | omega | (simp; omega))).trans (by first | exact y4 | exact (World.cell?_alloc_lt _ _ _ ly).trans y4)
              have x4 : u9.cell? ⟨u8.heap.size, 4, none⟩ = some (.bool gtk) := (hb.cell (p := ⟨u8.heap.size, 4, none⟩) (by simp)).trans (by simp)
              have z5 : u9.cell? ⟨u1.heap.size, 5, none⟩ = some (.int .i64 ga) := (hb.cell (p := ⟨u1.heap.size, 5, none⟩) (by first | omega | (simp; omega))).trans (by first | exact y5 | exact (World.cell?_alloc_lt _ _ _ ly).trans y5)
              have x5 : u9.cell? ⟨u8.heap.size, 5, none⟩ = some (.int .i64 ga) := (hb.cell (p := ⟨u8.heap.size, 5, none⟩) (by simp)).trans (by simp)
              clear hb y0 y1 y2 y3 y4 y5
              go_wp2_with fail
              go_ret
              exact ⟨rfl, MA.out.2.1⟩
          · have e1 : (gf == a2) = false := by simp [c1]
            have e2 : (gf != a2) = true := by simp [c1]
            by_cases c2 : gd = a2
            · have e3 : (gd == a2) = true := by simp [c2]
              have e4 : (gd != a2) = false := by simp [c2]
              clear c2
              go_wp2_with fail
              refine (GT.out _ hM1.out.1).mono ?_
              rintro e u1 ⟨rfl, hb1⟩
              have M1 : Hid (Own w u1 w.heap.size T) := hM1.out.grow hb1
              have l1 : w.heap.size < u1.heap.size := M1.out.1.2.2
              have M2 : Hid (Own w (u1.alloc (.cells #[.int .i64 gf, .int .i64 gp, .int .i64 gd, .bool gw, .bool gtk, .int .i64 ga] 24)) w.heap.size T) := M1.out.grow (Go.Joins.below_alloc1 _ _)
              clear hb1 hM1
              go_wp2_with fail
              refine (RV.out _ M2.out.1).mono ?_
              rintro e u3 ⟨rfl, h1, h2⟩
              have M3 : Hid (Own w u3 w.heap.size T) := M2.out.next h1 h2
              have z0 : u3.cell? ⟨u1.heap.size, 0, none⟩ = some (.int .i64 gf) := cell_grown h2 (by simp) (by omega) (by simp)
              have z1 : u3.cell? ⟨u1.heap.size, 1, none⟩ = some (.int .i64 gp) := cell_grown h2 (by simp) (by omega) (by simp)
              have z2 : u3.cell? ⟨u1.heap.size, 2, none⟩ = some (.int .i64 gd) := cell_grown h2 (by simp) (by omega) (by simp)
              have z3 : u3.cell? ⟨u1.heap.size, 3, none⟩ = some (.bool gw) := cell_grown h2 (by simp) (by omega) (by simp)
              have z4 : u3.cell? ⟨u1.heap.size, 4, none⟩ = some (.bool gtk) := cell_grown h2 (by simp) (by omega) (by simp)
              have z5 : u3.cell? ⟨u1.heap.size, 5, none⟩ = some (.int .i64 ga) := cell_grown h2 (by simp) (by omega) (by simp)
              have lz : u1.heap.size < u3.heap.size := Nat.lt_of_lt_of_le (by simp) h2.size
              have y0 := z0
              have y1 := z1
              have y2 := z2
              have y3 := z3
              have y4 := z4
              have y5 := z5
              have ly := lz
              clear z0 z1 z2 z3 z4 z5 lz
              clear h1 h2
              have M4 : Hid (Own w (u3.alloc (.cells #[.int .i64 0, .int .i64 0, .int .i64 0, .bool false, .bool false, .int .i64 0] 24)) w.heap.size T) := M3.out.grow (Go.Joins.below_alloc1 _ _)
              go_wp2_with fail
              refine (LV.out _ M4.out.1).mono ?_
              rintro e u5 ⟨rfl, h1, h2⟩
              have M5 : Hid (Own w u5 w.heap.size T) := M4.out.next h1 h2
              have z0 : u5.cell? ⟨u1.heap.size, 0, none⟩ = some (.int .i64 gf) := cell_grown h2 (by first | omega | (simp; omega)) (by omega) (by first | exact y0 | exact (World.cell?_alloc_lt _ _ _ ly).trans y0)
              have z1 : u5.cell? ⟨u1.heap.size, 1, none⟩ = some (.int .i64 gp) := cell_grown h2 (by first | omega | (simp; omega)) (by omega) (by first | exact y1 | exact (World.cell?_alloc_lt _ _ _ ly).trans y1)
              have z2 : u5.cell? ⟨u1.heap.size, 2, none⟩ = some (.int .i64 gd) := cell_grown h2 (by first | omega | (simp; omega)) (by omega) (by first | exact y2 | exact (World.cell?_alloc_lt _ _ _ ly).trans y2)
              have z3 : u5.cell? ⟨u1.heap.size, 3, none⟩ = some (.bool gw) := cell_grown h2 (by first | omega | (simp; omega)) (by omega) (by first | exact y3 | exact (World.cell?_alloc_lt _ _ _ ly).trans y3)
              have z4 : u5.cell? ⟨u1.heap.size, 4, none⟩ = some (.bool gtk) := cell_grown h2 (by first | omega | (simp; omega)) (by omega) (by first | exact y4 | exact (World.cell?_alloc_lt _ _ _ ly).trans y4)
              have z5 : u5.cell? ⟨u1.heap.size, 5, none⟩ = some (.int .i64 ga) := cell_grown h2 (by first | omega | (simp; omega)) (by omega) (by first | exact y5 | exact (World.cell?_alloc_lt _ _ _ ly).trans y5)
              have lz : u1.heap.size < u5.heap.size := Nat.lt_of_lt_of_le (by first | omega | (simp; omega)) h2.size
              clear y0 y1 y2 y3 y4 y5 ly
              have y0 := z0
              have y1 := z1
              have y2 := z2
              have y3 := z3
              have y4 := z4
              have y5 := z5
              have ly := lz
              clear z0 z1 z2 z3 z4 z5 lz
              clear h1 h2
              have M6 : Hid (Own w (u5.alloc (.cells #[.int .i64 0, .int .i64 0, .int .i64 0, .bool false, .bool false, .int .i64 0] 24)) w.heap.size T) := M5.out.grow (Go.Joins.below_alloc1 _ _)
              go_wp2_with fail
              refine (AC.out _ M6.out.1).mono ?_
              rintro e u7 ⟨rfl, h1, h2⟩
              have M7 : Hid (Own w u7 w.heap.size T) := M6.out.next h1 h2
              have z0 : u7.cell? ⟨u1.heap.size, 0, none⟩ = some (.int .i64 gf) := cell_grown h2 (by first | omega | (simp; omega)) (by omega) (by first | exact y0 | exact (World.cell?_alloc_lt _ _ _ ly).trans y0)
              have z1 : u7.cell? ⟨u1.heap.size, 1, none⟩ = some (.int .i64 gp) := cell_grown h2 (by first | omega | (simp; omega)) (by omega) (by first | exact y1 | exact (World.cell?_alloc_lt _ _ _ ly).trans y1)
              have z2 : u7.cell? ⟨u1.heap.size, 2, none⟩ = some (.int .i64 gd) := cell_grown h2 (by first | omega | (simp; omega)) (by omega) (by first | exact y2 | exact (World.cell?_alloc_lt _ _ _ ly).trans y2)
              have z3 : u7.cell? ⟨u1.heap.size, 3, none⟩ = some (.bool gw) := cell_grown h2 (by first | omega | (simp; omega)) (by omega) (by first | exact y3 | exact (World.cell?_alloc_lt _ _ _ ly).trans y3)
              have z4 : u7.cell? ⟨u1.heap.size, 4, none⟩ = some (.bool gtk) := cell_grown h2 (by first | omega | (simp; omega)) (by omega) (by first | exact y4 | exact (World.cell?_alloc_lt _ _ _ ly).trans y4)
              have z5 : u7.cell? ⟨u1.heap.size, 5, none⟩ = some (.int .i64 ga) := cell_grown h2 (by first | omega | (simp; omega)) (by omega) (by first | exact y5 | exact (World.cell?_alloc_lt _ _ _ ly).trans y5)
              have lz : u1.heap.size < u7.heap.size := Nat.lt_of_lt_of_le (by first | omega | (simp; omega)) h2.size
              clear y0 y1 y2 y3 y4 y5 ly
              have y0 := z0
              have y1 := z1
              have y2 := z2
              have y3 := z3
              have y4 := z4
              have y5 := z5
              have ly := lz
              clear z0 z1 z2 z3 z4 z5 lz
              clear h1 h2
              go_wp2_with fail
              refine (GT.out _ M7.out.1).mono ?_
              rintro e u8 ⟨rfl, hb⟩
              have M8 : Hid (Own w u8 w.heap.size T) := M7.out.grow hb
              have z0 : u8.cell? ⟨u1.heap.size, 0, none⟩ = some (.int .i64 gf) := (hb.cell (p := ⟨u1.heap.size, 0, none⟩) (by first | omega | (simp; omega))).trans (by first | exact y0 | exact (World.cell?_alloc_lt _ _ _ ly).trans y0)
              have z1 : u8.cell? ⟨u1.heap.size, 1, none⟩ = some (.int .i64 gp) := (hb.cell (p := ⟨u1.heap.size, 1, none⟩) (by first | omega | (simp; omega))).trans (by first | exact y1 | exact (World.cell?_alloc_lt _ _ _ ly).trans y1)
              have z2 : u8.cell? ⟨u1.heap.size, 2, none⟩ = some (.int .i64 gd) := (hb.cell (p := ⟨u1.heap.size, 2, none⟩) (by first | omega | (simp; omega))).trans (by first | exact y2 | exact (World.cell?_alloc_lt _ _ _ ly).trans y2)
              have z3 : u8.cell? ⟨u1.heap.size, 3, none⟩ = some (.bool gw) := (hb.cell (p := ⟨u1.heap.size, 3, none⟩) (by first | omega | (simp; omega))).trans (by first | exact y3 | exact (World.cell?_alloc_lt _ _ _ ly).trans y3)
              have z4 : u8.cell? ⟨u1.heap.size, 4, none⟩ = some (.bool gtk) := (hb.cell (p := ⟨u1.heap.size, 4, none⟩) (by first | omega | (simp; omega))).trans (by first | exact y4 | exact (World.cell?_alloc_lt _ _ _ ly).trans y4)
              have z5 : u8.cell? ⟨u1.heap.size, 5, none⟩ = some (.int .i64 ga) := (hb.cell (p := ⟨u1.heap.size, 5, none⟩) (by first | omega | (simp; omega))).trans (by first | exact y5 | exact (World.cell?_alloc_lt _ _ _ ly).trans y5)
              have lz : u1.heap.size < u8.heap.size := Nat.lt_of_lt_of_le (by first | omega | (simp; omega)) hb.size
              clear y0 y1 y2 y3 y4 y5 ly
              have y0 := z0
              have y1 := z1
              have y2 := z2
              have y3 := z3
              have y4 := z4
              have y5 := z5
              have ly := lz
              clear z0 z1 z2 z3 z4 z5 lz
              clear hb
              have M9 : Hid (Own w (u8.alloc (.cells #[.int .i64 gf, .int .i64 gp, .int .i64 gd, .bool gw, .bool gtk, .int .i64 ga] 24)) w.heap.size T) := M8.out.grow (Go.Joins.below_alloc1 _ _)
              go_wp2_with fail
              refine (AW.out _).mono ?_
              rintro e u9 ⟨rfl, hb⟩
              have MA : Hid (Own w u9 w.heap.size T) := M9.out.grow hb
              have z0 : u9.cell? ⟨u1.heap.size, 0, none⟩ = some (.int .i64 gf) := (hb.cell (p := ⟨u1.heap.size, 0, none⟩) (by first | omega | (simp; omega))).trans (by first | exact y0 | exact (World.cell?_alloc_lt _ _ _ ly).trans y0)
              have x0 : u9.cell? ⟨u8.heap.size, 0, none⟩ = some (.int .i64 gf) := (hb.cell (p := ⟨u8.heap.size, 0, none⟩) (by simp)).trans (by simp)
              have z1 : u9.cell? ⟨u1.heap.size, 1, none⟩ = some (.int .i64 gp) := (hb.cell (p := ⟨u1.heap.size, 1, none⟩) (by first | omega | (simp; omega))).trans (by first | exact y1 | exact (World.cell?_alloc_lt _ _ _ ly).trans y1)
              have x1 : u9.cell? ⟨u8.heap.size, 1, none⟩ = some (.int .i64 gp) := (hb.cell (p := ⟨u8.heap.size, 1, none⟩) (by simp)).trans (by simp)
              have z2 : u9.cell? ⟨u1.heap.size, 2, none⟩ = some (.int .i64 gd) := (hb.cell (p := ⟨u1.heap.size, 2, none⟩) (by first | omega | (simp; omega))).trans (by first | exact y2 | exact (World.cell?_alloc_lt _ _ _ ly).trans y2)
              have x2 : u9.cell? ⟨u8.heap.size, 2, none⟩ = some (.int .i64 gd) := (hb.cell (p := ⟨u8.heap.size, 2, none⟩) (by simp)).trans (by simp)
              have z3 : u9.cell? ⟨u1.heap.size, 3, none⟩ = some (.bool gw) := (hb.cell (p := ⟨u1.heap.size, 3, none⟩) (by first | omega | (simp; omega))).trans (by first | exact y3 | exact (World.cell?_alloc_lt _ _ _ ly).trans y3)
              have x3 : u9.cell? ⟨u8.heap.size, 3, none⟩ = some (.bool gw) := (hb.cell (p := ⟨u8.heap.size, 3, none⟩) (by simp)).trans (by simp)
              have z4 : u9.cell? ⟨u1.heap.size, 4, none⟩ = some (.bool gtk) := (hb.cell (p := ⟨u1.heap.size, 4, none⟩) (by first | omega | (simp; omega))).trans (by first | exact y4 | exact (World.cell?_alloc_lt _ _ _ ly).trans y4)
              have x4 : u9.cell? ⟨u8.heap.size, 4, none⟩ = some (.bool gtk) := (hb.cell (p := ⟨u8.heap.size, 4, none⟩) (by simp)).trans (by simp)
              have z5 : u9.cell? ⟨u1.heap.size, 5, none⟩ = some (.int .i64 ga) := (hb.cell (p := ⟨u1.heap.size, 5, none⟩) (by first | omega | (simp; omega))).trans (by first | exact y5 | exact (World.cell?_alloc_lt _ _ _ ly).trans y5)
              have x5 : u9.cell? ⟨u8.heap.size, 5, none⟩ = some (.int .i64 ga) := (hb.cell (p := ⟨u8.heap.size, 5, none⟩) (by simp)).trans (by simp)
              clear hb y0 y1 y2 y3 y4 y5
              go_wp2_with fail
              go_ret
              exact ⟨rfl, MA.out.2.1⟩
            · have e3 : (gd == a2) = false := by simp [c2]
              have e4 : (gd != a2) = true := by simp [c2]
              go_wp2_with fail
              refine (GT.out _ hM1.out.1).mono ?_
              rintro e u1 ⟨rfl, hb1⟩
              have M1 : Hid (Own w u1 w.heap.size T) := hM1.out.grow hb1
              have l1 : w.heap.size < u1.heap.size := M1.out.1.2.2
              have M2 : Hid (Own w (u1.alloc (.cells #[.int .i64 gf, .int .i64 gp, .int .i64 gd, .bool gw, .bool gtk, .int .i64 ga] 24)) w.heap.size T) := M1.out.grow (Go.Joins.below_alloc1 _ _)
              clear hb1 hM1
              go_wp2_with fail
              refine (RV.out _ M2.out.1).mono ?_
              rintro e u3 ⟨rfl, h1, h2⟩
              have M3 : Hid (Own w u3 w.heap.size T) := M2.out.next h1 h2
              have z0 : u3.cell? ⟨u1.heap.size, 0, none⟩ = some (.int .i64 gf) := cell_grown h2 (by simp) (by omega) (by simp)
              have z1 : u3.cell? ⟨u1.heap.size, 1, none⟩ = some (.int .i64 gp) := cell_grown h2 (by simp) (by omega) (by simp)
              have z2 : u3.cell? ⟨u1.heap.size, 2, none⟩ = some (.int .i64 gd) := cell_grown h2 (by simp) (by omega) (by simp)
              have z3 : u3.cell? ⟨u1.heap.size, 3, none⟩ = some (.bool gw) := cell_grown h2 (by simp) (by omega) (by simp)
              have z4 : u3.cell? ⟨u1.heap.size, 4, none⟩ = some (.bool gtk) := cell_grown h2 (by simp) (by omega) (by simp)
              have z5 : u3.cell? ⟨u1.heap.size, 5, none⟩ = some (.int .i64 ga) := cell_grown h2 (by simp) (by omega) (by simp)
              have lz : u1.heap.size < u3.heap.size := Nat.lt_of_lt_of_le (by simp) h2.size
              have y0 := z0
              have y1 := z1
              have y2 := z2
              have y3 := z3
              have y4 := z4
              have y5 := z5
              have ly := lz
              clear z0 z1 z2 z3 z4 z5 lz
              clear h1 h2
              have M4 : Hid (Own w (u3.alloc (.cells #[.int .i64 0, .int .i64 0, .int .i64 0, .bool false, .bool false, .int .i64 0] 24)) w.heap.size T) := M3.out.grow (Go.Joins.below_alloc1 _ _)
              go_wp2_with fail
              refine (LV.out _ M4.out.1).mono ?_
              rintro e u5 ⟨rfl, h1, h2⟩
              have M5 : Hid (Own w u5 w.heap.size T) := M4.out.next h1 h2
              have z0 : u5.cell? ⟨u1.heap.size, 0, none⟩ = some (.int .i64 gf) := cell_grown h2 (by first | omega | (simp; omega)) (by omega) (by first | exact y0 | exact (World.cell?_alloc_lt _ _ _ ly).trans y0)
              have z1 : u5.cell? ⟨u1.heap.size, 1, none⟩ = some (.int .i64 gp) := cell_grown h2 (by first | omega | (simp; omega)) (by omega) (by first | exact y1 | exact (World.cell?_alloc_lt _ _ _ ly).trans y1)
              have z2 : u5.cell? ⟨u1.heap.size, 2, none⟩ = some (.int .i64 gd) := cell_grown h2 (by first | omega | (simp; omega)) (by omega) (by first | exact y2 | exact (World.cell?_alloc_lt _ _ _ ly).trans y2)
              have z3 : u5.cell? ⟨u1.heap.size, 3, none⟩ = some (.bool gw) := cell_grown h2 (by first | omega | (simp; omega)) (by omega) (by first | exact y3 | exact (World.cell?_alloc_lt _ _ _ ly).trans y3)
              have z4 : u5.cell? ⟨u1.heap.size, 4, none⟩ = some (.bool gtk) := cell_grown h2 (by first | omega | (simp; omega)) (by omega) (by first | exact y4 | exact (World.cell?_alloc_lt _ _ _ ly).trans y4)
              have z5 : u5.cell? ⟨u1.heap.size, 5, none⟩ = some (.int .i64 ga) := cell_grown h2 (by first | omega | (simp; omega)) (by omega) (by first | exact y5 | exact (World.cell?_alloc_lt _ _ _ ly).trans y5)
              have lz : u1.heap.size < u5.heap.size := Nat.lt_of_lt_of_le (by first | omega | (simp; omega)) h2.size
              clear y0 y1 y2 y3 y4 y5 ly
              have y0 := z0
              have y1 := z1
              have y2 := z2
              have y3 := z3
              have y4 := z4
              have y5 := z5
              have ly := lz
              clear z0 z1 z2 z3 z4 z5 lz
              clear h1 h2
              have M6 : Hid (Own w (u5.alloc (.cells #[.int .i64 0, .int .i64 0, .int .i64 0, .bool false, .bool false, .int .i64 0] 24)) w.heap.size T) := M5.out.grow (Go.Joins.below_alloc1 _ _)
              go_wp2_with fail
              refine (AC.out _ M6.out.1).mono ?_
              rintro e u7 ⟨rfl, h1, h2⟩
              have M7 : Hid (Own w u7 w.heap.size T) := M6.out.next h1 h2
              have z0 : u7.cell? ⟨u1.heap.size, 0, none⟩ = some (.int .i64 gf) := cell_grown h2 (by first | omega | (simp; omega)) (by omega) (by first | exact y0 | exact (World.cell?_alloc_lt _ _ _ ly).trans y0)
              have z1 : u7.cell? ⟨u1.heap.size, 1, none⟩ = some (.int .i64 gp) := cell_grown h2 (by first | omega | (simp; omega)) (by omega) (by first | exact y1 | exact (World.cell?_alloc_lt _ _ _ ly).trans y1)
              have z2 : u7.cell? ⟨u1.heap.size, 2, none⟩ = some (.int .i64 gd) := cell_grown h2 (by first | omega | (simp; omega)) (by omega) (by first | exact y2 | exact (World.cell?_alloc_lt _ _ _ ly).trans y2)
              have z3 : u7.cell? ⟨u1.heap.size, 3, none⟩ = some (.bool gw) := cell_grown h2 (by first | omega | (simp; omega)) (by omega) (by first | exact y3 | exact (World.cell?_alloc_lt _ _ _ ly).trans y3)
              have z4 : u7.cell? ⟨u1.heap.size, 4, none⟩ = some (.bool gtk) := cell_grown h2 (by first | omega | (simp; omega)) (by omega) (by first | exact y4 | exact (World.cell?_alloc_lt _ _ _ ly).trans y4)
              have z5 : u7.cell? ⟨u1.heap.size, 5, none⟩ = some (.int .i64 ga) := cell_grown h2 (by first | omega | (simp; omega)) (by omega) (by first | exact y5 | exact (World.cell?_alloc_lt _ _ _ ly).trans y5)
              have lz : u1.heap.size < u7.heap.size := Nat.lt_of_lt_of_le (by first | omega | (simp; omega)) h2.size
              clear y0 y1 y2 y3 y4 y5 ly
              have y0 := z0
              have y1 := z1
              have y2 := z2
              have y3 := z3
              have y4 := z4
              have y5 := z5
              have ly := lz
              clear z0 z1 z2 z3 z4 z5 lz
              clear h1 h2
              go_wp2_with fail
              refine (GT.out _ M7.out.1).mono ?_
              rintro e u8 ⟨rfl, hb⟩
              have M8 : Hid (Own w u8 w.heap.size T) := M7.out.grow hb
              have z0 : u8.cell? ⟨u1.heap.size, 0, none⟩ = some (.int .i64 gf) := (hb.cell (p := ⟨u1.heap.size, 0, none⟩) (by first | omega | (simp; omega))).trans (by first | exact y0 | exact (World.cell?_alloc_lt _ _ _ ly).trans y0)
              have z1 : u8.cell? ⟨u1.heap.size, 1, none⟩ = some (.int .i64 gp) := (hb.cell (p := ⟨u1.heap.size, 1, none⟩) (by first | omega | (simp; omega))).trans (by first | exact y1 | exact (World.cell?_alloc_lt _ _ _ ly).trans y1)
              have z2 : u8.cell? ⟨u1.heap.size, 2, none⟩ = some (.int .i64 gd) := (hb.cell (p := ⟨u1.heap.size, 2, none⟩) (by first | omega | (simp; omega))).trans (by first | exact y2 | exact (World.cell?_alloc_lt _ _ _ ly).trans y2)
              have z3 : u8.cell? ⟨u1.heap.size, 3, none⟩ = some (.bool gw) := (hb.cell (p := ⟨u1.heap.size, 3, none⟩) (by first | omega | (simp; omega))).trans (by first | exact y3 | exact (World.cell?_alloc_lt _ _ _ ly).trans y3)
              have z4 : u8.cell? ⟨u1.heap.size, 4, none⟩ = some (.bool gtk) := (hb.cell (p := ⟨u1.heap.size, 4, none⟩) (by first | omega | (simp; omega))).trans (by first | exact y4 | exact (World.cell?_alloc_lt _ _ _ ly).trans y4)
              have z5 : u8.cell? ⟨u1.heap.size, 5, none⟩ = some (.int .i64 ga) := (hb.cell (p := ⟨u1.heap.size, 5, none⟩) (by first | omega | (simp; omega))).trans (by first | exact y5 | exact (World.cell?_alloc_lt _ _ _ ly).trans y5)
              have lz : u1.heap.size < u8.heap.size := Nat.lt_of_lt_of_le (by first | omega | (simp; omega)) hb.size
              clear y0 y1 y2 y3 y4 y5 ly
              have y0 := z0
              have y1 := z1
              have y2 := z2
              have y3 := z3
              have y4 := z4
              have y5 := z5
              have ly := lz
              clear z0 z1 z2 z3 z4 z5 lz
              clear hb
              have M9 : Hid (Own w (u8.alloc (.cells #[.int .i64 gf, .int .i64 gp, .int .i64 gd, .bool gw, .bool gtk, .int .i64 ga] 24)) w.heap.size T) := M8.out.grow (Go.Joins.below_alloc1 _ _)
              go_wp2_with fail
              refine (AW.out _).mono ?_
              rintro e u9 ⟨rfl, hb⟩
              have MA : Hid (Own w u9 w.heap.size T) := M9.out.grow hb
              have z0 : u9.cell? ⟨u1.heap.size, 0, none⟩ = some (.int .i64 gf) := (hb.cell (p := ⟨u1.heap.size, 0, none⟩) (by first | omega | (simp; omega))).trans (by first | exact y0 | exact (World.cell?_alloc_lt _ _ _ ly).trans y0)
              have x0 : u9.cell? ⟨u8.heap.size, 0, none⟩ = some (.int .i64 gf) := (hb.cell (p := ⟨u8.heap.size, 0, none⟩) (by simp)).trans (by simp)
              have z1 : u9.cell? ⟨u1.heap.size, 1, none⟩ = some (.int .i64 gp) := (hb.cell (p := ⟨u1.heap.size, 1, none⟩) (by first | omega | (simp; omega))).trans (by first | exact y1 | exact (World.cell?_alloc_lt _ _ _ ly).trans y1)
              have x1 : u9.cell? ⟨u8.heap.size, 1, none⟩ = some (.int .i64 gp) := (hb.cell (p := ⟨u8.heap.size, 1, none⟩) (by simp)).trans (by simp)
              have z2 : u9.cell? ⟨u1.heap.size, 2, none⟩ = some (.int .i64 gd) := (hb.cell (p := ⟨u1.heap.size, 2, none⟩) (by first | omega | (simp; omega))).trans (by first | exact y2 | exact (World.cell?_alloc_lt _ _ _ ly).trans y2)
              have x2 : u9.cell? ⟨u8.heap.size, 2, none⟩ = some (.int .i64 gd) := (hb.cell (p := ⟨u8.heap.size, 2, none⟩) (by simp)).trans (by simp)
              have z3 : u9.cell? ⟨u1.heap.size, 3, none⟩ = some (.bool gw) := (hb.cell (p := ⟨u1.heap.size, 3, none⟩) (by first | omega | (simp; omega))).trans (by first | exact y3 | exact (World.cell?_alloc_lt _ _ _ ly).trans y3)
              have x3 : u9.cell? ⟨u8.heap.size, 3, none⟩ = some (.bool gw) := (hb.cell (p := ⟨u8.heap.size, 3, none⟩) (by simp)).trans (by simp)
              have z4 : u9.cell? ⟨u1.heap.size, 4, none⟩ = some (.bool gtk) := (hb.cell (p := ⟨u1.heap.size, 4, none⟩) (by first | omega | (simp; omega))).trans (by first | exact y4 | exact (World.cell?_alloc_lt _ _ _ ly).trans y4)
              have x4 : u9.cell? ⟨u8.heap.size, 4, none⟩ = some (.bool gtk) := (hb.cell (p := ⟨u8.heap.size, 4, none⟩) (by simp)).trans (by simp)
              have z5 : u9.cell? ⟨u1.heap.size, 5, none⟩ = some (.int .i64 ga) := (hb.cell (p := ⟨u1.heap.size, 5, none⟩) (by first | omega | (simp; omega))).trans (by first | exact y5 | exact (World.cell?_alloc_lt _ _ _ ly).trans y5)
              have x5 : u9.cell? ⟨u8.heap.size, 5, none⟩ = some (.int .i64 ga) := (hb.cell (p := ⟨u8.heap.size, 5, none⟩) (by simp)).trans (by simp)
              clear hb y0 y1 y2 y3 y4 y5
              go_wp2_with fail
              go_ret
              exact ⟨rfl, MA.out.2.1⟩
        · by_cases c1 : gf = a2
          · have e1 : (gf == a2) = true := by simp [c1]
            have e2 : (gf != a2) = false := by simp [c1]
            clear c1
            by_cases c2 : gd = a2
            · have e3 : (gd == a2) = true := by simp [c2]
              have e4 : (gd != a2) = false := by simp [c2]
              clear c2 rv lv ac
              go_wp2_with fail
              refine (GT.out _ hM1.out.1).mono ?_
              rintro e u1 ⟨rfl, hb1⟩
              have M1 : Hid (Own w u1 w.heap.size T) := hM1.out.grow hb1
              have l1 : w.heap.size < u1.heap.size := M1.out.1.2.2
              have M2 : Hid (Own w (u1.alloc (.cells #[.int .i64 gf, .int .i64 gp, .int .i64 gd, .bool gw, .bool gtk, .int .i64 ga] 24)) w.heap.size T) := M1.out.grow (Go.Joins.below_alloc1 _ _)
              clear hb1 hM1
              go_wp2_with fail
              refine (GT.out _ M2.out.1).mono ?_
              rintro e u8 ⟨rfl, hb⟩
              have M8 : Hid (Own w u8 w.heap.size T) := M2.out.grow hb
              have z0 : u8.cell? ⟨u1.heap.size, 0, none⟩ = some (.int .i64 gf) := (hb.cell (p := ⟨u1.heap.size, 0, none⟩) (by simp)).trans (by simp)
              have z1 : u8.cell? ⟨u1.heap.size, 1, none⟩ = some (.int .i64 gp) := (hb.cell (p := ⟨u1.heap.size, 1, none⟩) (by simp)).trans (by simp)
              have z2 : u8.cell? ⟨u1.heap.size, 2, none⟩ = some (.int .i64 gd) := (hb.cell (p := ⟨u1.heap.size, 2, none⟩) (by simp)).trans (by simp)
              have z3 : u8.cell? ⟨u1.heap.size, 3, none⟩ = some (.bool gw) := (hb.cell (p := ⟨u1.heap.size, 3, none⟩) (by simp)).trans (by simp)
              have z4 : u8.cell? ⟨u1.heap.size, 4, none⟩ = some (.bool gtk) := (hb.cell (p := ⟨u1.heap.size, 4, none⟩) (by simp)).trans (by simp)
              have z5 : u8.cell? ⟨u1.heap.size, 5, none⟩ = some (.int .i64 ga) := (hb.cell (p := ⟨u1.heap.size, 5, none⟩) (by simp)).trans (by simp)
              have lz : u1.heap.size < u8.heap.size := Nat.lt_of_lt_of_le (by simp) hb.size
              have y0 := z0
              have y1 := z1
              have y2 := z2
              have y3 := z3
              have y4 := z4
              have y5 := z5
              have ly := lz
              clear z0 z1 z2 z3 z4 z5 lz
              clear hb
              have M9 : Hid (Own w (u8.alloc (.cells #[.int .i64 gf, .int .i64 gp, .int .i64 gd, .bool gw, .bool gtk, .int .i64 ga] 24)) w.heap.size T) := M8.out.grow (Go.Joins.below_alloc1 _ _)
              go_wp2_with fail
              refine (AW.out _).mono ?_
              rintro e u9 ⟨rfl, hb⟩
              have MA : Hid (Own w u9 w.heap.size T) := M9.out.grow hb
              have z0 : u9.cell? ⟨u1.heap.size, 0, none⟩ = some (.int .i64 gf) := (hb.cell (p := ⟨u1.heap.size, 0, none⟩) (by first | omega | (simp; omega))).trans (by first | exact y0 | exact (World.cell?_alloc_lt _ _ _ ly).trans y0)
              have x0 : u9.cell? ⟨u8.heap.size, 0, none⟩ = some (.int .i64 gf) := (hb.cell (p := ⟨u8.heap.size, 0, none⟩) (by simp)).trans (by simp)
              have z1 : u9.cell? ⟨u1.heap.size, 1, none⟩ = some (.int .i64 gp) := (hb.cell (p := ⟨u1.heap.size, 1, none⟩) (by first | omega | (simp; omega))).trans (by first | exact y1 | exact (World.cell?_alloc_lt _ _ _ ly).trans y1)
              have x1 : u9.cell? ⟨u8.heap.size, 1, none⟩ = some (.int .i64 gp) := (hb.cell (p := ⟨u8.heap.size, 1, none⟩) (by simp)).trans (by simp)
              have z2 : u9.cell? ⟨u1.heap.size, 2, none⟩ = some (.int .i64 gd) := (hb.cell (p := ⟨u1.heap.size, 2, none⟩) (by first | omega | (simp; omega))).trans (by first | exact y2 | exact (World.cell?_alloc_lt _ _ _ ly).trans y2)
              have x2 : u9.cell? ⟨u8.heap.size, 2, none⟩ = some (.int .i64 gd) := (hb.cell (p := ⟨u8.heap.size, 2, none⟩) (by simp)).trans (by simp)
              have z3 : u9.cell? ⟨u1.heap.size, 3, none⟩ = some (.bool gw) := (hb.cell (p := ⟨u1.heap.size, 3, none⟩) (by first | omega | (simp; omega))).trans (by first | exact y3 | exact (World.cell?_alloc_lt _ _ _ ly).trans y3)
              have x3 : u9.cell? ⟨u8.heap.size, 3, none⟩ = some (.bool gw) := (hb.cell (p := ⟨u8.heap.size, 3, none⟩) (by simp)).trans (by simp)
              have z4 : u9.cell? ⟨u1.heap.size, 4, none⟩ = some (.bool gtk) := (hb.cell (p := ⟨u1.heap.size, 4, none⟩) (by first | omega | (simp; omega))).trans (by first | exact y4 | exact (World.cell?_alloc_lt _ _ _ ly).trans y4)
              have x4 : u9.cell? ⟨u8.heap.size, 4, none⟩ = some (.bool gtk) := (hb.cell (p := ⟨u8.heap.size, 4, none⟩) (by simp)).trans (by simp)
              have z5 : u9.cell? ⟨u1.heap.size, 5, none⟩ = some (.int .i64 ga) := (hb.cell (p := ⟨u1.heap.size, 5, none⟩) (by first | omega | (simp; omega))).trans (by first | exact y5 | exact (World.cell?_alloc_lt _ _ _ ly).trans y5)
              have x5 : u9.cell? ⟨u8.heap.size, 5, none⟩ = some (.int .i64 ga) := (hb.cell (p := ⟨u8.heap.size, 5, none⟩) (by simp)).trans (by simp)
              clear hb y0 y1 y2 y3 y4 y5
              go_wp2_with fail
              go_ret
              exact ⟨rfl, MA.out.2.1⟩
            · have e3 : (gd == a2) = false := by simp [c2]
              have e4 : (gd != a2) = true := by simp [c2]
              have LV : Hid _ := lv (Or.inr c2)
              have AC : Hid _ := ac (Or.inr c2)
              clear rv lv ac
              go_wp2_with fail
              refine (GT.out _ hM1.out.1).mono ?_
              rintro e u1 ⟨rfl, hb1⟩
              have M1 : Hid (Own w u1 w.heap.size T) := hM1.out.grow hb1
              have l1 : w.heap.size < u1.heap.size := M1.out.1.2.2
              have M2 : Hid (Own w (u1.alloc (.cells #[.int .i64 gf, .int .i64 gp, .int .i64 gd, .bool gw, .bool gtk, .int .i64 ga] 24)) w.heap.size T) := M1.out.grow (Go.Joins.below_alloc1 _ _)
              clear hb1 hM1
              go_wp2_with fail
              refine (LV.out _ M2.out.1).mono ?_
              rintro e u5 ⟨rfl, h1, h2⟩
              have M5 : Hid (Own w u5 w.heap.size T) := M2.out.next h1 h2
              have z0 : u5.cell? ⟨u1.heap.size, 0, none⟩ = some (.int .i64 gf) := cell_grown h2 (by simp) (by omega) (by simp)
              have z1 : u5.cell? ⟨u1.heap.size, 1, none⟩ = some (.int .i64 gp) := cell_grown h2 (by simp) (by omega) (by simp)
              have z2 : u5.cell? ⟨u1.heap.size, 2, none⟩ = some (.int .i64 gd) := cell_grown h2 (by simp) (by omega) (by simp)
              have z3 : u5.cell? ⟨u1.heap.size, 3, none⟩ = some (.bool gw) := cell_grown h2 (by simp) (by omega) (by simp)
              have z4 : u5.cell? ⟨u1.heap.size, 4, none⟩ = some (.bool gtk) := cell_grown h2 (by simp) (by omega) (by simp)
              have z5 : u5.cell? ⟨u1.heap.size, 5, none⟩ = some (.int .i64 ga) := cell_grown h2 (by simp) (by omega) (by simp)
              have lz : u1.heap.size < u5.heap.size := Nat.lt_of_lt_of_le (by simp) h2.size
              have y0 := z0
              have y1 := z1
              have y2 := z2
              have y3 := z3
              have y4 := z4
              have y5 := z5
              have ly := lz
              clear z0 z1 z2 z3 z4 z5 lz
              clear h1 h2
              have M6 : Hid (Own w (u5.alloc (.cells #[.int .i64 0, .int .i64 0, .int .i64 0, .bool false, .bool false, .int .i64 0] 24)) w.heap.size T) := M5.out.grow (Go.Joins.below_alloc1 _ _)
              go_wp2_with fail
              refine (AC.out _ M6.out.1).mono ?_
              rintro e u7 ⟨rfl, h1, h2⟩
              have M7 : Hid (Own w u7 w.heap.size T) := M6.out.next h1 h2
              have z0 : u7.cell? ⟨u1.heap.size, 0, none⟩ = some (.int .i64 gf) := cell_grown h2 (by first | omega | (simp; omega)) (by omega) (by first | exact y0 | exact (World.cell?_alloc_lt _ _ _ ly).trans y0)
              have z1 : u7.cell? ⟨u1.heap.size, 1, none⟩ = some (.int .i64 gp) := cell_grown h2 (by first | omega | (simp; omega)) (by omega) (by first | exact y1 | exact (World.cell?_alloc_lt _ _ _ ly).trans y1)
              have z2 : u7.cell? ⟨u1.heap.size, 2, none⟩ = some (.int .i64 gd) := cell_grown h2 (by first | omega | (simp; omega)) (by omega) (by first | exact y2 | exact (World.cell?_alloc_lt _ _ _ ly).trans y2)
              have z3 : u7.cell? ⟨u1.heap.size, 3, none⟩ = some (.bool gw) := cell_grown h2 (by first | omega | (simp; omega)) (by omega) (by first | exact y3 | exact (World.cell?_alloc_lt _ _ _ ly).trans y3)
              have z4 : u7.cell? ⟨u1.heap.size, 4, none⟩ = some (.bool gtk) := cell_grown h2 (by first | omega | (simp; omega)) (by omega) (by first | exact y4 | exact (World.cell?_alloc_lt _ _ _ ly).trans y4)
              have z5 : u7.cell? ⟨u1.heap.size, 5, none⟩ = some (.int .i64 ga) := cell_grown h2 (by first | omega | (simp; omega)) (by omega) (by first | exact y5 | exact (World.cell?_alloc_lt _ _ _ ly).trans y5)
              have lz : u1.heap.size < u7.heap.size := Nat.lt_of_lt_of_le (by first | omega | (simp; omega)) h2.size
              clear y0 y1 y2 y3 y4 y5 ly
              have y0 := z0
              have y1 := z1
              have y2 := z2
              have y3 := z3
              have y4 := z4
              have y5 := z5
              have ly := lz
              clear z0 z1 z2 z3 z4 z5 lz
              clear h1 h2
              go_wp2_with fail
              refine (GT.out _ M7.out.1).mono ?_
              rintro e u8 ⟨rfl, hb⟩
              have M8 : Hid (Own w u8 w.heap.size T) := M7.out.grow hb
              have z0 : u8.cell? ⟨u1.heap.size, 0, none⟩ = some (.int .i64 gf) := (hb.cell (p := ⟨u1.heap.size, 0, none⟩) (by first | omega | (simp; omega))).trans (by first | exact y0 | exact (World.cell?_alloc_lt _ _ _ ly).trans y0)
              have z1 : u8.cell? ⟨u1.heap.size, 1, none⟩ = some (.int .i64 gp) := (hb.cell (p := ⟨u1.heap.size, 1, none⟩) (by first | omega | (simp; omega))).trans (by first | exact y1 | exact (World.cell?_alloc_lt _ _ _ ly).trans y1)
              have z2 : u8.cell? ⟨u1.heap.size, 2, none⟩ = some (.int .i64 gd) := (hb.cell (p := ⟨u1.heap.size, 2, none⟩) (by first | omega | (simp; omega))).trans (by first | exact y2 | exact (World.cell?_alloc_lt _ _ _ ly).trans y2)
              have z3 : u8.cell? ⟨u1.heap.size, 3, none⟩ = some (.bool gw) := (hb.cell (p := ⟨u1.heap.size, 3, none⟩) (by first | omega | (simp; omega))).trans (by first | exact y3 | exact (World.cell?_alloc_lt _ _ _ ly).trans y3)
              have z4 : u8.cell? ⟨u1.heap.size, 4, none⟩ = some (.bool gtk) := (hb.cell (p := ⟨u1.heap.size, 4, none⟩) (by first | omega | (simp; omega))).trans (by first | exact y4 | exact (World.cell?_alloc_lt _ _ _ ly).trans y4)
              have z5 : u8.cell? ⟨u1.heap.size, 5, none⟩ = some (.int .i64 ga) := (hb.cell (p := ⟨u1.heap.size, 5, none⟩) (by first | omega | (simp; omega))).trans (by first | exact y5 | exact (World.cell?_alloc_lt _ _ _ ly).trans y5)
              have lz : u1.heap.size < u8.heap.size := Nat.lt_of_lt_of_le (by first | omega | (simp; omega)) hb.size
              clear y0 y1 y2 y3 y4 y5 ly
              have y0 := z0
              have y1 := z1
              have y2 := z2
              have y3 := z3
              have y4 := z4
              have y5 := z5
              have ly := lz
              clear z0 z1 z2 z3 z4 z5 lz
              clear hb
              have M9 : Hid (Own w (u8.alloc (.cells #[.int .i64 gf, .int .i64 gp, .int .i64 gd, .bool gw, .bool gtk, .int .i64 ga] 24)) w.heap.size T) := M8.out.grow (Go.Joins.below_alloc1 _ _)
              go_wp2_with fail
              refine (AW.out _).mono ?_
              rintro e u9 ⟨rfl, hb⟩
              have MA : Hid (Own w u9 w.heap.size T) := M9.out.grow hb
              have z0 : u9.cell? ⟨u1.heap.size, 0, none⟩ = some (.int .i64 gf) := (hb.cell (p := ⟨u1.heap.size, 0, none⟩) (by first | omega | (simp; omega))).trans (by first | exact y0 | exact (World.cell?_alloc_lt _ _ _ ly).trans y0)
              have x0 : u9.cell? ⟨u8.heap.size, 0, none⟩ = some (.int .i64 gf) := (hb.cell (p := ⟨u8.heap.size, 0, none⟩) (by simp)).trans (by simp)
              have z1 : u9.cell? ⟨u1.heap.size, 1, none⟩ = some (.int .i64 gp) := (hb.cell (p := ⟨u1.heap.size, 1, none⟩) (by first | omega | (simp; omega))).trans (by first | exact y1 | exact (World.cell?_alloc_lt _ _ _ ly).trans y1)
              have x1 : u9.cell? ⟨u8.heap.size, 1, none⟩ = some (.int .i64 gp) := (hb.cell (p := ⟨u8.heap.size, 1, none⟩) (by simp)).trans (by simp)
              have z2 : u9.cell? ⟨u1.heap.size, 2, none⟩ = some (.int .i64 gd) := (hb.cell (p := ⟨u1.heap.size, 2, none⟩) (by first | omega | (simp; omega))).trans (by first | exact y2 | exact (World.cell?_alloc_lt _ _ _ ly).trans y2)
              have x2 : u9.cell? ⟨u8.heap.size, 2, none⟩ = some (.int .i64 gd) := (hb.cell (p := ⟨u8.heap.size, 2, none⟩) (by simp)).trans (by simp)
              have z3 : u9.cell? ⟨u1.heap.size, 3, none⟩ = some (.bool gw) := (hb.cell (p := ⟨u1.heap.size, 3, none⟩) (by first | omega | (simp; omega))).trans (by first | exact y3 | exact (World.cell?_alloc_lt _ _ _ ly).trans y3)
              have x3 : u9.cell? ⟨u8.heap.size, 3, none⟩ = some (.bool gw) := (hb.cell (p := ⟨u8.heap.size, 3, none⟩) (by simp)).trans (by simp)
              have z4 : u9.cell? ⟨u1.heap.size, 4, none⟩ = some (.bool gtk) := (hb.cell (p := ⟨u1.heap.size, 4, none⟩) (by first | omega | (simp; omega))).trans (by first | exact y4 | exact (World.cell?_alloc_lt _ _ _ ly).trans y4)
              have x4 : u9.cell? ⟨u8.heap.size, 4, none⟩ = some (.bool gtk) := (hb.cell (p := ⟨u8.heap.size, 4, none⟩) (by simp)).trans (by simp)
              have z5 : u9.cell? ⟨u1.heap.size, 5, none⟩ = some (.int .i64 ga) := (hb.cell (p := ⟨u1.heap.size, 5, none⟩) (by first | omega | (simp; omega))).trans (by first | exact y5 | exact (World.cell?_alloc_lt _ _ _ ly).trans y5)
              have x5 : u9.cell? ⟨u8.heap.size, 5, none⟩ = some (.int .i64 ga) := (hb.cell (p := ⟨u8.heap.size, 5, none⟩) (by simp)).trans (by simp)
              clear hb y0 y1 y2 y3 y4 y5
              go_wp2_with fail
              go_ret
              exact ⟨rfl, MA.out.2.1⟩
          · have e1 : (gf == a2) = false := by simp [c1]
            have e2 : (gf != a2) = true := by simp [c1]
            have RV : Hid _ := rv (Or.inr c1)
            by_cases c2 : gd = a2
            · have e3 : (gd == a2) = true := by simp [c2]
              have e4 : (gd != a2) = false := by simp [c2]
              clear c2 rv lv ac
              go_wp2_with fail
              refine (GT.out _ hM1.out.1).mono ?_
              rintro e u1 ⟨rfl, hb1⟩
              have M1 : Hid (Own w u1 w.heap.size T) := hM1.out.grow hb1
              have l1 : w.heap.size < u1.heap.size := M1.out.1.2.2
              have M2 : Hid (Own w (u1.alloc (.cells #[.int .i64 gf, .int .i64 gp, .int .i64 gd, .bool gw, .bool gtk, .int .i64 ga] 24)) w.heap.size T) := M1.out.grow (Go.Joins.below_alloc1 _ _)
              clear hb1 hM1
              go_wp2_with fail
              refine (RV.out _ M2.out.1).mono ?_
              rintro e u3 ⟨rfl, h1, h2⟩
              have M3 : Hid (Own w u3 w.heap.size T) := M2.out.next h1 h2
              have z0 : u3.cell? ⟨u1.heap.size, 0, none⟩ = some (.int .i64 gf) := cell_grown h2 (by simp) (by omega) (by simp)
              have z1 : u3.cell? ⟨u1.heap.size, 1, none⟩ = some (.int .i64 gp) := cell_grown h2 (by simp) (by omega) (by simp)
              have z2 : u3.cell? ⟨u1.heap.size, 2, none⟩ = some (.int .i64 gd) := cell_grown h2 (by simp) (by omega) (by simp)
              have z3 : u3.cell? ⟨u1.heap.size, 3, none⟩ = some (.bool gw) := cell_grown h2 (by simp) (by omega) (by simp)
              have z4 : u3.cell? ⟨u1.heap.size, 4, none⟩ = some (.bool gtk) := cell_grown h2 (by simp) (by omega) (by simp)
              have z5 : u3.cell? ⟨u1.heap.size, 5, none⟩ = some (.int .i64 ga) := cell_grown h2 (by simp) (by omega) (by simp)
              have lz : u1.heap.size < u3.heap.size := Nat.lt_of_lt_of_le (by simp) h2.size
              have y0 := z0
              have y1 := z1
              have y2 := z2
              have y3 := z3
              have y4 := z4
              have y5 := z5
              have ly := lz
              clear z0 z1 z2 z3 z4 z5 lz
              clear h1 h2
              have M4 : Hid (Own w (u3.alloc (.cells #[.int .i64 0, .int .i64 0, .int .i64 0, .bool false, .bool false, .int .i64 0] 24)) w.heap.size T) := M3.out.grow (Go.Joins.below_alloc1 _ _)
              go_wp2_with fail
              refine (GT.out _ M4.out.1).mono ?_
              rintro e u8 ⟨rfl, hb⟩
              have M8 : Hid (Own w u8 w.heap.size T) := M4.out.grow hb
              have z0 : u8.cell? ⟨u1.heap.size, 0, none⟩ = some (.int .i64 gf) := (hb.cell (p := ⟨u1.heap.size, 0, none⟩) (by first | omega | (simp; omega))).trans (by first | exact y0 | exact (World.cell?_alloc_lt _ _ _ ly).trans y0)
              have z1 : u8.cell? ⟨u1.heap.size, 1, none⟩ = some (.int .i64 gp) := (hb.cell (p := ⟨u1.heap.size, 1, none⟩) (by first | omega | (simp; omega))).trans (by first | exact y1 | exact (World.cell?_alloc_lt _ _ _ ly).trans y1)
              have z2 : u8.cell? ⟨u1.heap.size, 2, none⟩ = some (.int .i64 gd) := (hb.cell (p := ⟨u1.heap.size, 2, none⟩) (by first | omega | (simp; omega))).trans (by first | exact y2 | exact (World.cell?_alloc_lt _ _ _ ly).trans y2)
              have z3 : u8.cell? ⟨u1.heap.size, 3, none⟩ = some (.bool gw) := (hb.cell (p := ⟨u1.heap.size, 3, none⟩) (by first | omega | (simp; omega))).trans (by first | exact y3 | exact (World.cell?_alloc_lt _ _ _ ly).trans y3)
              have z4 : u8.cell? ⟨u1.heap.size, 4, none⟩ = some (.bool gtk) := (hb.cell (p := ⟨u1.heap.size, 4, none⟩) (by first | omega | (simp; omega))).trans (by first | exact y4 | exact (World.cell?_alloc_lt _ _ _ ly).trans y4)
              have z5 : u8.cell? ⟨u1.heap.size, 5, none⟩ = some (.int .i64 ga) := (hb.cell (p := ⟨u1.heap.size, 5, none⟩) (by first | omega | (simp; omega))).trans (by first | exact y5 | exact (World.cell?_alloc_lt _ _ _ ly).trans y5)
              have lz : u1.heap.size < u8.heap.size := Nat.lt_of_lt_of_le (by first | omega | (simp; omega)) hb.size
              clear y0 y1 y2 y3 y4 y5 ly
              have y0 := z0
              have y1 := z1
              have y2 := z2
              have y3 := z3
              have y4 := z4
              have y5 := z5
              have ly := lz
              clear z0 z1 z2 z3 z4 z5 lz
              clear hb
              have M9 : Hid (Own w (u8.alloc (.cells #[.int .i64 gf, .int .i64 gp, .int .i64 gd, .bool gw, .bool gtk, .int .i64 ga] 24)) w.heap.size T) := M8.out.grow (Go.Joins.below_alloc1 _ _)
              go_wp2_with fail
              refine (AW.out _).mono ?_
              rintro e u9 ⟨rfl, hb⟩
              have MA : Hid (Own w u9 w.heap.size T) := M9.out.grow hb
              have z0 : u9.cell? ⟨u1.heap.size, 0, none⟩ = some (.int .i64 gf) := (hb.cell (p := ⟨u1.heap.size, 0, none⟩) (by first | omega | (simp; omega))).trans (by first | exact y0 | exact (World.cell?_alloc_lt _ _ _ ly).trans y0)
              have x0 : u9.cell? ⟨u8.heap.size, 0, none⟩ = some (.int .i64 gf) := (hb.cell (p := ⟨u8.heap.size, 0, none⟩) (by simp)).trans (by simp)
              have z1 : u9.cell? ⟨u1.heap.size, 1, none⟩ = some (.int .i64 gp) := (hb.cell (p := ⟨u1.heap.size, 1, none⟩) (by first | omega | (simp; omega))).trans (by first | exact y1 | exact (World.cell?_alloc_lt _ _ _ ly).trans y1)
              have x1 : u9.cell? ⟨u8.heap.size, 1, none⟩ = some (.int .i64 gp) := (hb.cell (p := ⟨u8.heap.size, 1, none⟩) (by simp)).trans (by simp)
              have z2 : u9.cell? ⟨u1.heap.size, 2, none⟩ = some (.int .i64 gd) := (hb.cell (p := ⟨u1.heap.size, 2, none⟩) (by first | omega | (simp; omega))).trans (by first | exact y2 | exact (World.cell?_alloc_lt _ _ _ ly).trans y2)
              have x2 : u9.cell? ⟨u8.heap.size, 2, none⟩ = some (.int .i64 gd) := (hb.cell (p := ⟨u8.heap.size, 2, none⟩) (by simp)).trans (by simp)
              have z3 : u9.cell? ⟨u1.heap.size, 3, none⟩ = some (.bool gw) := (hb.cell (p := ⟨u1.heap.size, 3, none⟩) (by first | omega | (simp; omega))).trans (by first | exact y3 | exact (World.cell?_alloc_lt _ _ _ ly).trans y3)
              have x3 : u9.cell? ⟨u8.heap.size, 3, none⟩ = some (.bool gw) := (hb.cell (p := ⟨u8.heap.size, 3, none⟩) (by simp)).trans (by simp)
              have z4 : u9.cell? ⟨u1.heap.size, 4, none⟩ = some (.bool gtk) := (hb.cell (p := ⟨u1.heap.size, 4, none⟩) (by first | omega | (simp; omega))).trans (by first | exact y4 | exact (World.cell?_alloc_lt _ _ _ ly).trans y4)
              have x4 : u9.cell? ⟨u8.heap.size, 4, none⟩ = some (.bool gtk) := (hb.cell (p := ⟨u8.heap.size, 4, none⟩) (by simp)).trans (by simp)
              have z5 : u9.cell? ⟨u1.heap.size, 5, none⟩ = some (.int .i64 ga) := (hb.cell (p := ⟨u1.heap.size, 5, none⟩) (by first | omega | (simp; omega))).trans (by first | exact y5 | exact (World.cell?_alloc_lt _ _ _ ly).trans y5)
              have x5 : u9.cell? ⟨u8.heap.size, 5, none⟩ = some (.int .i64 ga) := (hb.cell (p := ⟨u8.heap.size, 5, none⟩) (by simp)).trans (by simp)
              clear hb y0 y1 y2 y3 y4 y5
              go_wp2_with fail
              go_ret
              exact ⟨rfl, MA.out.2.1⟩
            · have e3 : (gd == a2) = false := by simp [c2]
              have e4 : (gd != a2) = true := by simp [c2]
              have LV : Hid _ := lv (Or.inr c2)
              have AC : Hid _ := ac (Or.inr c2)
              clear rv lv ac
              go_wp2_with fail
              refine (GT.out _ hM1.out.1).mono ?_
              rintro e u1 ⟨rfl, hb1⟩
              have M1 : Hid (Own w u1 w.heap.size T) := hM1.out.grow hb1
              have l1 : w.heap.size < u1.heap.size := M1.out.1.2.2
              have M2 : Hid (Own w (u1.alloc (.cells #[.int .i64 gf, .int .i64 gp, .int .i64 gd, .bool gw, .bool gtk, .int .i64 ga] 24)) w.heap.size T) := M1.out.grow (Go.Joins.below_alloc1 _ _)
              clear hb1 hM1
              go_wp2_with fail
              refine (RV.out _ M2.out.1).mono ?_
              rintro e u3 ⟨rfl, h1, h2⟩
              have M3 : Hid (Own w u3 w.heap.size T) := M2.out.next h1 h2
              have z0 : u3.cell? ⟨u1.heap.size, 0, none⟩ = some (.int .i64 gf) := cell_grown h2 (by simp) (by omega) (by simp)
              have z1 : u3.cell? ⟨u1.heap.size, 1, none⟩ = some (.int .i64 gp) := cell_grown h2 (by simp) (by omega) (by simp)
              have z2 : u3.cell? ⟨u1.heap.size, 2, none⟩ = some (.int .i64 gd) := cell_grown h2 (by simp) (by omega) (by simp)
              have z3 : u3.cell? ⟨u1.heap.size, 3, none⟩ = some (.bool gw) := cell_grown h2 (by simp) (by omega) (by simp)
              have z4 : u3.cell? ⟨u1.heap.size, 4, none⟩ = some (.bool gtk) := cell_grown h2 (by simp) (by omega) (by simp)
              have z5 : u3.cell? ⟨u1.heap.size, 5, none⟩ = some (.int .i64 ga) := cell_grown h2 (by simp) (by omega) (by simp)
              have lz : u1.heap.size < u3.heap.size := Nat.lt_of_lt_of_le (by simp) h2.size
              have y0 := z0
              have y1 := z1
              have y2 := z2
              have y3 := z3
              have y4 := z4
              have y5 := z5
              have ly := lz
              clear z0 z1 z2 z3 z4 z5 lz
              clear h1 h2
              have M4 : Hid (Own w (u3.alloc (.cells #[.int .i64 0, .int .i64 0, .int .i64 0, .bool false, .bool false, .int .i64 0] 24)) w.heap.size T) := M3.out.grow (Go.Joins.below_alloc1 _ _)
              go_wp2_with fail
              refine (LV.out _ M4.out.1).mono ?_
              rintro e u5 ⟨rfl, h1, h2⟩
              have M5 : Hid (Own w u5 w.heap.size T) := M4.out.next h1 h2
              have z0 : u5.cell? ⟨u1.heap.size, 0, none⟩ = some (.int .i64 gf) := cell_grown h2 (by first | omega | (simp; omega)) (by omega) (by first | exact y0 | exact (World.cell?_alloc_lt _ _ _ ly).trans y0)
              have z1 : u5.cell? ⟨u1.heap.size, 1, none⟩ = some (.int .i64 gp) := cell_grown h2 (by first | omega | (simp; omega)) (by omega) (by first | exact y1 | exact (World.cell?_alloc_lt _ _ _ ly).trans y1)
              have z2 : u5.cell? ⟨u1.heap.size, 2, none⟩ = some (.int .i64 gd) := cell_grown h2 (by first | omega | (simp; omega)) (by omega) (by first | exact y2 | exact (World.cell?_alloc_lt _ _ _ ly).trans y2)
              have z3 : u5.cell? ⟨u1.heap.size, 3, none⟩ = some (.bool gw) := cell_grown h2 (by first | omega | (simp; omega)) (by omega) (by first | exact y3 | exact (World.cell?_alloc_lt _ _ _ ly).trans y3)
              have z4 : u5.cell? ⟨u1.heap.size, 4, none⟩ = some (.bool gtk) := cell_grown h2 (by first | omega | (simp; omega)) (by omega) (by first | exact y4 | exact (World.cell?_alloc_lt _ _ _ ly).trans y4)
              have z5 : u5.cell? ⟨u1.heap.size, 5, none⟩ = some (.int .i64 ga) := cell_grown h2 (by first | omega | (simp; omega)) (by omega) (by first | exact y5 | exact (World.cell?_alloc_lt _ _ _ ly).trans y5)
              have lz : u1.heap.size < u5.heap.size := Nat.lt_of_lt_of_le (by first | omega | (simp; omega)) h2.size
              clear y0 y1 y2 y3 y4 y5 ly
              have y0 := z0
              have y1 := z1
              have y2 := z2
              have y3 := z3
              have y4 := z4
              have y5 := z5
              have ly := lz
              clear z0 z1 z2 z3 z4 z5 lz
              clear h1 h2
              have M6 : Hid (Own w (u5.alloc (.cells #[.int .i64 0, .int .i64 0, .int .i64 0, .bool false, .bool false, .int .i64 0] 24)) w.heap.size T) := M5.out.grow (Go.Joins.below_alloc1 _ _)
              go_wp2_with fail
              refine (AC.out _ M6.out.1).mono ?_
              rintro e u7 ⟨rfl, h1, h2⟩
              have M7 : Hid (Own w u7 w.heap.size T) := M6.out.next h1 h2
              have z0 : u7.cell? ⟨u1.heap.size, 0, none⟩ = some (.int .i64 gf) := cell_grown h2 (by first | omega | (simp; omega)) (by omega) (by first | exact y0 | exact (World.cell?_alloc_lt _ _ _ ly).trans y0)
              have z1 : u7.cell? ⟨u1.heap.size, 1, none⟩ = some (.int .i64 gp) := cell_grown h2 (by first | omega | (simp; omega)) (by omega) (by first | exact y1 | exact (World.cell?_alloc_lt _ _ _ ly).trans y1)
              have z2 : u7.cell? ⟨u1.heap.size, 2, none⟩ = some (.int .i64 gd) := cell_grown h2 (by first | omega | (simp; omega)) (by omega) (by first | exact y2 | exact (World.cell?_alloc_lt _ _ _ ly).trans y2)
              have z3 : u7.cell? ⟨u1.heap.size, 3, none⟩ = some (.bool gw) := cell_grown h2 (by first | omega | (simp; omega)) (by omega) (by first | exact y3 | exact (World.cell?_alloc_lt _ _ _ ly).trans y3)
              have z4 : u7.cell? ⟨u1.heap.size, 4, none⟩ = some (.bool gtk) := cell_grown h2 (by first | omega | (simp; omega)) (by omega) (by first | exact y4 | exact (World.cell?_alloc_lt _ _ _ ly).trans y4)
              have z5 : u7.cell? ⟨u1.heap.size, 5, none⟩ = some (.int .i64 ga) := cell_grown h2 (by first | omega | (simp; omega)) (by omega) (by first | exact y5 | exact (World.cell?_alloc_lt _ _ _ ly).trans y5)
              have lz : u1.heap.size < u7.heap.size := Nat.lt_of_lt_of_le (by first | omega | (simp; omega)) h2.size
              clear y0 y1 y2 y3 y4 y5 ly
              have y0 := z0
              have y1 := z1
              have y2 := z2
              have y3 := z3
              have y4 := z4
              have y5 := z5
              have ly := lz
              clear z0 z1 z2 z3 z4 z5 lz
              clear h1 h2
              go_wp2_with fail
              refine (GT.out _ M7.out.1).mono ?_
              rintro e u8 ⟨rfl, hb⟩
              have M8 : Hid (Own w u8 w.heap.size T) := M7.out.grow hb
              have z0 : u8.cell? ⟨u1.heap.size, 0, none⟩ = some (.int .i64 gf) := (hb.cell (p := ⟨u1.heap.size, 0, none⟩) (by first | omega | (simp; omega))).trans (by first | exact y0 | exact (World.cell?_alloc_lt _ _ _ ly).trans y0)
              have z1 : u8.cell? ⟨u1.heap.size, 1, none⟩ = some (.int .i64 gp) := (hb.cell (p := ⟨u1.heap.size, 1, none⟩) (by first | omega | (simp; omega))).trans (by first | exact y1 | exact (World.cell?_alloc_lt _ _ _ ly).trans y1)
              have z2 : u8.cell? ⟨u1.heap.size, 2, none⟩ = some (.int .i64 gd) := (hb.cell (p := ⟨u1.heap.size, 2, none⟩) (by first | omega | (simp; omega))).trans (by first | exact y2 | exact (World.cell?_alloc_lt _ _ _ ly).trans y2)
              have z3 : u8.cell? ⟨u1.heap.size, 3, none⟩ = some (.bool gw) := (hb.cell (p := ⟨u1.heap.size, 3, none⟩) (by first | omega | (simp; omega))).trans (by first | exact y3 | exact (World.cell?_alloc_lt _ _ _ ly).trans y3)
              have z4 : u8.cell? ⟨u1.heap.size, 4, none⟩ = some (.bool gtk) := (hb.cell (p := ⟨u1.heap.size, 4, none⟩) (by first | omega | (simp; omega))).trans (by first | exact y4 | exact (World.cell?_alloc_lt _ _ _ ly).trans y4)
              have z5 : u8.cell? ⟨u1.heap.size, 5, none⟩ = some (.int .i64 ga) := (hb.cell (p := ⟨u1.heap.size, 5, none⟩) (by first | omega | (simp; omega))).trans (by first | exact y5 | exact (World.cell?_alloc_lt _ _ _ ly).trans y5)
              have lz : u1.heap.size < u8.heap.size := Nat.lt_of_lt_of_le (by first | omega | (simp; omega)) hb.size
              clear y0 y1 y2 y3 y4 y5 ly
              have y0 := z0
              have y1 := z1
              have y2 := z2
              have y3 := z3
              have y4 := z4
              have y5 := z5
              have ly := lz
              clear z0 z1 z2 z3 z4 z5 lz
              clear hb
              have M9 : Hid (Own w (u8.alloc (.cells #[.int .i64 gf, .int .i64 gp, .int .i64 gd, .bool gw, .bool gtk, .int .i64 ga] 24)) w.heap.size T) := M8.out.grow (Go.Joins.below_alloc1 _ _)
              go_wp2_with fail
              refine (AW.out _).mono ?_
              rintro e u9 ⟨rfl, hb⟩
              have MA : Hid (Own w u9 w.heap.size T) := M9.out.grow hb
              have z0 : u9.cell? ⟨u1.heap.size, 0, none⟩ = some (.int .i64 gf) := (hb.cell (p := ⟨u1.heap.size, 0, none⟩) (by first | omega | (simp; omega))).trans (by first | exact y0 | exact (World.cell?_alloc_lt _ _ _ ly).trans y0)
              have x0 : u9.cell? ⟨u8.heap.size, 0, none⟩ = some (.int .i64 gf) := (hb.cell (p := ⟨u8.heap.size, 0, none⟩) (by simp)).trans (by simp)
              have z1 : u9.cell? ⟨u1.heap.size, 1, none⟩ = some (.int .i64 gp) := (hb.cell (p := ⟨u1.heap.size, 1, none⟩) (by first | omega | (simp; omega))).trans (by first | exact y1 | exact (World.cell?_alloc_lt _ _ _ ly).trans y1)
              have x1 : u9.cell? ⟨u8.heap.size, 1, none⟩ = some (.int .i64 gp) := (hb.cell (p := ⟨u8.heap.size, 1, none⟩) (by simp)).trans (by simp)
              have z2 : u9.cell? ⟨u1.heap.size, 2, none⟩ = some (.int .i64 gd) := (hb.cell (p := ⟨u1.heap.size, 2, none⟩) (by first | omega | (simp; omega))).trans (by first | exact y2 | exact (World.cell?_alloc_lt _ _ _ ly).trans y2)
              have x2 : u9.cell? ⟨u8.heap.size, 2, none⟩ = some (.int .i64 gd) := (hb.cell (p := ⟨u8.heap.size, 2, none⟩) (by simp)).trans (by simp)
              have z3 : u9.cell? ⟨u1.heap.size, 3, none⟩ = some (.bool gw) := (hb.cell (p := ⟨u1.heap.size, 3, none⟩) (by first | omega | (simp; omega))).trans (by first | exact y3 | exact (World.cell?_alloc_lt _ _ _ ly).trans y3)
              have x3 : u9.cell? ⟨u8.heap.size, 3, none⟩ = some (.bool gw) := (hb.cell (p := ⟨u8.heap.size, 3, none⟩) (by simp)).trans (by simp)
              have z4 : u9.cell? ⟨u1.heap.size, 4, none⟩ = some (.bool gtk) := (hb.cell (p := ⟨u1.heap.size, 4, none⟩) (by first | omega | (simp; omega))).trans (by first | exact y4 | exact (World.cell?_alloc_lt _ _ _ ly).trans y4)
              have x4 : u9.cell? ⟨u8.heap.size, 4, none⟩ = some (.bool gtk) := (hb.cell (p := ⟨u8.heap.size, 4, none⟩) (by simp)).trans (by simp)
              have z5 : u9.cell? ⟨u1.heap.size, 5, none⟩ = some (.int .i64 ga) := (hb.cell (p := ⟨u1.heap.size, 5, none⟩) (by first | omega | (simp; omega))).trans (by first | exact y5 | exact (World.cell?_alloc_lt _ _ _ ly).trans y5)
              have x5 : u9.cell? ⟨u8.heap.size, 5, none⟩ = some (.int .i64 ga) := (hb.cell (p := ⟨u8.heap.size, 5, none⟩) (by simp)).trans (by simp)
              clear hb y0 y1 y2 y3 y4 y5
              go_wp2_with fail
              go_ret
              exact ⟨rfl, MA.out.2.1⟩
      · have hd : decide ((k : Int) < (n0 : Int)) = false := by simp; omega
        cases gi
        · have rv := rv (Or.inl rfl)
          have lv := lv (Or.inl rfl)
          have ac := ac (Or.inl rfl)
          have RV : Hid _ := rv
          have LV : Hid _ := lv
          have AC : Hid _ := ac
          clear rv lv ac
          by_cases c1 : gf = a2
          · have e1 : (gf == a2) = true := by simp [c1]
            have e2 : (gf != a2) = false := by simp [c1]
            clear c1
            by_cases c2 : gd = a2
            · have e3 : (gd == a2) = true := by simp [c2]
              have e4 : (gd != a2) = false := by simp [c2]
              clear c2
              go_wp2_with fail
              refine (GT.out _ hM1.out.1).mono ?_
              rintro e u1 ⟨rfl, hb1⟩
              have M1 : Hid (Own w u1 w.heap.size T) := hM1.out.grow hb1
              have l1 : w.heap.size < u1.heap.size := M1.out.1.2.2
              have M2 : Hid (Own w (u1.alloc (.cells #[.int .i64 gf, .int .i64 gp, .int .i64 gd, .bool gw, .bool gtk, .int .i64 ga] 24)) w.heap.size T) := M1.out.grow (Go.Joins.below_alloc1 _ _)
              clear hb1 hM1
              go_wp2_with fail
              refine (RV.out _ M2.out.1).mono ?_
              rintro e u3 ⟨rfl, h1, h2⟩
              have M3 : Hid (Own w u3 w.heap.size T) := M2.out.next h1 h2
              have z0 : u3.cell? ⟨u1.heap.size, 0, none⟩ = some (.int .i64 gf) := cell_grown h2 (by simp) (by omega) (by simp)
              have z1 : u3.cell? ⟨u1.heap.size, 1, none⟩ = some (.int .i64 gp) := cell_grown h2 (by simp) (by omega) (by simp)
              have z2 : u3.cell? ⟨u1.heap.size, 2, none⟩ = some (.int .i64 gd) := cell_grown h2 (by simp) (by omega) (by simp)
              have z3 : u3.cell? ⟨u1.heap.size, 3, none⟩ = some (.bool gw) := cell_grown h2 (by simp) (by omega) (by simp)
              have z4 : u3.cell? ⟨u1.heap.size, 4, none⟩ = some (.bool gtk) := cell_grown h2 (by simp) (by omega) (by simp)
              have z5 : u3.cell? ⟨u1.heap.size, 5, none⟩ = some (.int .i64 ga) := cell_grown h2 (by simp) (by omega) (by simp)
              have lz : u1.heap.size < u3.heap.size := Nat.lt_of_lt_of_le (by simp) h2.size
              have y0 := z0
              have y1 := z1
              have y2 := z2
              have y3 := z3
              have y4 := z4
              have y5 := z5
              have ly := lz
              clear z0 z1 z2 z3 z4 z5 lz
              clear h1 h2
              have M4 : Hid (Own w (u3.alloc (.cells #[.int .i64 0, .int .i64 0, .int .i64 0, .bool false, .bool false, .int .i64 0] 24)) w.heap.size T) := M3.out.grow (Go.Joins.below_alloc1 _ _)
              go_wp2_with fail
              refine (LV.out _ M4.out.1).mono ?_
              rintro e u5 ⟨rfl, h1, h2⟩
              have M5 : Hid (Own w u5 w.heap.size T) := M4.out.next h1 h2
              have z0 : u5.cell? ⟨u1.heap.size, 0, none⟩ = some (.int .i64 gf) := cell_grown h2 (by first | omega | (simp; omega)) (by omega) (by first | exact y0 | exact (World.cell?_alloc_lt _ _ _ ly).trans y0)
              have z1 : u5.cell? ⟨u1.heap.size, 1, none⟩ = some (.int .i64 gp) := cell_grown h2 (by first | omega | (simp; omega)) (by omega) (by first | exact y1 | exact (World.cell?_alloc_lt _ _ _ ly).trans y1)
              have z2 : u5.cell? ⟨u1.heap.size, 2, none⟩ = some (.int .i64 gd) := cell_grown h2 (by first | omega | (simp; omega)) (by omega) (by first | exact y2 | exact (World.cell?_alloc_lt _ _ _ ly).trans y2)
              have z3 : u5.cell? ⟨u1.heap.size, 3, none⟩ = some (.bool gw) := cell_grown h2 (by first | omega | (simp; omega)) (by omega) (by first | exact y3 | exact (World.cell?_alloc_lt _ _ _ ly).trans y3)
              have z4 : u5.cell? ⟨u1.heap.size, 4, none⟩ = some (.bool gtk) := cell_grown h2 (by first | omega | (simp; omega)) (by omega) (by first | exact y4 | exact (World.cell?_alloc_lt _ _ _ ly).trans y4)
              have z5 : u5.cell? ⟨u1.heap.size, 5, none⟩ = some (.int .i64 ga) := cell_grown h2 (by first | omega | (simp; omega)) (by omega) (by first | exact y5 | exact (World.cell?_alloc_lt _ _ _ ly).trans y5)
              have lz : u1.heap.size < u5.heap.size := Nat.lt_of_lt_of_le (by first | omega | (simp; omega)) h2.size
              clear y0 y1 y2 y3 y4 y5 ly
              have y0 := z0
              have y1 := z1
              have y2 := z2
              have y3 := z3
              have y4 := z4
              have y5 := z5
              have ly := lz
              clear z0 z1 z2 z3 z4 z5 lz
              clear h1 h2
              have M6 : Hid (Own w (u5.alloc (.cells #[.int .i64 0, .int .i64 0, .int .i64 0, .bool false, .bool false, .int .i64 0] 24)) w.heap.size T) := M5.out.grow (Go.Joins.below_alloc1 _ _)
              go_wp2_with fail
              refine (AC.out _ M6.out.1).mono ?_
              rintro e u7 ⟨rfl, h1, h2⟩
              have M7 : Hid (Own w u7 w.heap.size T) := M6.out.next h1 h2
              have z0 : u7.cell? ⟨u1.heap.size, 0, none⟩ = some (.int .i64 gf) := cell_grown h2 (by first | omega | (simp; omega)) (by omega) (by first | exact y0 | exact (World.cell?_alloc_lt _ _ _ ly).trans y0)
              have z1 : u7.cell? ⟨u1.heap.size, 1, none⟩ = some (.int .i64 gp) := cell_grown h2 (by first | omega | (simp; omega)) (by omega) (by first | exact y1 | exact (World.cell?_alloc_lt _ _ _ ly).trans y1)
              have z2 : u7.cell? ⟨u1.heap.size, 2, none⟩ = some (.int .i64 gd) := cell_grown h2 (by first | omega | (simp; omega)) (by omega) (by first | exact y2 | exact (World.cell?_alloc_lt _ _ _ ly).trans y2)
              have z3 : u7.cell? ⟨u1.heap.size, 3, none⟩ = some (.bool gw) := cell_grown h2 (by first | omega | (simp; omega)) (by omega) (by first | exact y3 | exact (World.cell?_alloc_lt _ _ _ ly).trans y3)
              have z4 : u7.cell? ⟨u1.heap.size, 4, none⟩ = some (.bool gtk) := cell_grown h2 (by first | omega | (simp; omega)) (by omega) (by first | exact y4 | exact (World.cell?_alloc_lt _ _ _ ly).trans y4)
              have z5 : u7.cell? ⟨u1.heap.size, 5, none⟩ = some (.int .i64 ga) := cell_grown h2 (by first | omega | (simp; omega)) (by omega) (by first | exact y5 | exact (World.cell?_alloc_lt _ _ _ ly).trans y5)
              have lz : u1.heap.size < u7.heap.size := Nat.lt_of_lt_of_le (by first | omega | (simp; omega)) h2.size
              clear y0 y1 y2 y3 y4 y5 ly
              have y0 := z0
              have y1 := z1
              have y2 := z2
              have y3 := z3
              have y4 := z4
              have y5 := z5
              have ly := lz
              clear z0 z1 z2 z3 z4 z5 lz
              clear h1 h2
              go_wp2_with fail
              refine (GT.out _ M7.out.1).mono ?_
              rintro e u8 ⟨rfl, hb⟩
              have M8 : Hid (Own w u8 w.heap.size T) := M7.out.grow hb
              have z0 : u8.cell? ⟨u1.heap.size, 0, none⟩ = some (.int .i64 gf) := (hb.cell (p := ⟨u1.heap.size, 0, none⟩) (by first | omega | (simp; omega))).trans (by first | exact y0 | exact (World.cell?_alloc_lt _ _ _ ly).trans y0)
              have z1 : u8.cell? ⟨u1.heap.size, 1, none⟩ = some (.int .i64 gp) := (hb.cell (p := ⟨u1.heap.size, 1, none⟩) (by first | omega | (simp; omega))).trans (by first | exact y1 | exact (World.cell?_alloc_lt _ _ _ ly).trans y1)
              have z2 : u8.cell? ⟨u1.heap.size, 2, none⟩ = some (.int .i64 gd) := (hb.cell (p := ⟨u1.heap.size, 2, none⟩) (by first | omega | (simp; omega))).trans (by first | exact y2 | exact (World.cell?_alloc_lt _ _ _ ly).trans y2)
              have z3 : u8.cell? ⟨u1.heap.size, 3, none⟩ = some (.bool gw) := (hb.cell (p := ⟨u1.heap.size, 3, none⟩) (by first | omega | (simp; omega))).trans (by first | exact y3 | exact (World.cell?_alloc_lt _ _ _ ly).trans y3)
              have z4 : u8.cell? ⟨u1.heap.size, 4, none⟩ = some (.bool gtk) := (hb.cell (p := ⟨u1.heap.size, 4, none⟩) (by first | omega | (simp; omega))).trans (by first | exact y4 | exact (World.cell?_alloc_lt _ _ _ ly).trans y4)
              have z5 : u8.cell? ⟨u1.heap.size, 5, none⟩ = some (.int .i64 ga) := (hb.cell (p := ⟨u1.heap.size, 5, none⟩) (by first | omega | (simp; omega))).trans (by first | exact y5 | exact (World.cell?_alloc_lt _ _ _ ly).trans y5)
              have lz : u1.heap.size < u8.heap.size := Nat.lt_of_lt_of_le (by first | omega | (simp; omega)) hb.size
              clear y0 y1 y2 y3 y4 y5 ly
              have y0 := z0
              have y1 := z1
              have y2 := z2
              have y3 := z3
              have y4 := z4
              have y5 := z5
              have ly := lz
              clear z0 z1 z2 z3 z4 z5 lz
              clear hb
              have M9 : Hid (Own w (u8.alloc (.cells #[.int .i64 gf, .int .i64 gp, .int .i64 gd, .bool gw, .bool gtk, .int .i64 ga] 24)) w.heap.size T) := M8.out.grow (Go.Joins.below_alloc1 _ _)
              go_wp2_with fail
              refine (AW.out _).mono ?_
              rintro e u9 ⟨rfl, hb⟩
              have MA : Hid (Own w u9 w.heap.size T) := M9.out.grow hb
              have z0 : u9.cell? ⟨u1.heap.size, 0, none⟩ = some (.int .i64 gf) := (hb.cell (p := ⟨u1.heap.size, 0, none⟩) (by first | omega | (simp; omega))).trans (by first | exact y0 | exact (World.cell?_alloc_lt _ _ _ ly).trans y0)
              have x0 : u9.cell? ⟨u8.heap.size, 0, none⟩ = some (.int .i64 gf) := (hb.cell (p := ⟨u8.heap.size, 0, none⟩) (by simp)).trans (by simp)
              have z1 : u9.cell? ⟨u1.heap.size, 1, none⟩ = some (.int .i64 gp) := (hb.cell (p := ⟨u1.heap.size, 1, none⟩) (by first | omega | (simp; omega))).trans (by first | exact y1 | exact (World.cell?_alloc_lt _ _ _ ly).trans y1)
              have x1 : u9.cell? ⟨u8.heap.size, 1, none⟩ = some (.int .i64 gp) := (hb.cell (p := ⟨u8.heap.size, 1, none⟩) (by simp)).trans (by simp)
              have z2 : u9.cell? ⟨u1.heap.size, 2, none⟩ = some (.int .i64 gd) := (hb.cell (p := ⟨u1.heap.size, 2, none⟩) (by first | omega | (simp; omega))).trans (by first | exact y2 | exact (World.cell?_alloc_lt _ _ _ ly).trans y2)
              have x2 : u9.cell? ⟨u8.heap.size, 2, none⟩ = some (.int .i64 gd) := (hb.cell (p := ⟨u8.heap.size, 2, none⟩) (by simp)).trans (by simp)
              have z3 : u9.cell? ⟨u1.heap.size, 3, none⟩ = some (.bool gw) := (hb.cell (p := ⟨u1.heap.size, 3, none⟩) (by first | omega | (simp; omega))).trans (by first | exact y3 | exact (World.cell?_alloc_lt _ _ _ ly).trans y3)
              have x3 : u9.cell? ⟨u8.heap.size, 3, none⟩ = some (.bool gw) := (hb.cell (p := ⟨u8.heap.size, 3, none⟩) (by simp)).trans (by simp)
              have z4 : u9.cell? ⟨u1.heap.size, 4, none⟩ = some (.bool gtk) := (hb.cell (p := ⟨u1.heap.size, 4, none⟩) (by first | omega | (simp; omega))).trans (by first | exact y4 | exact (World.cell?_alloc_lt _ _ _ ly).trans y4)
              have x4 : u9.cell? ⟨u8.heap.size, 4, none⟩ = some (.bool gtk) := (hb.cell (p := ⟨u8.heap.size, 4, none⟩) (by simp)).trans (by simp)
              have z5 : u9.cell? ⟨u1.heap.size, 5, none⟩ = some (.int .i64 ga) := (hb.cell (p := ⟨u1.heap.size, 5, none⟩) (by first | omega | (simp; omega))).trans (by first | exact y5 | exact (World.cell?_alloc_lt _ _ _ ly).trans y5)
              have x5 : u9.cell? ⟨u8.heap.size, 5, none⟩ = some (.int .i64 ga) := (hb.cell (p := ⟨u8.heap.size, 5, none⟩) (by simp)).trans (by simp)
              clear hb y0 y1 y2 y3 y4 y5
              go_wp2_with fail
              go_ret
              exact ⟨rfl, MA.out.2.1⟩
            · have e3 : (gd == a2) = false := by simp [c2]
              have e4 : (gd != a2) = true := by simp [c2]
              go_wp2_with fail
              refine (GT.out _ hM1.out.1).mono ?_
              rintro e u1 ⟨rfl, hb1⟩
              have M1 : Hid (Own w u1 w.heap.size T) := hM1.out.grow hb1
              have l1 : w.heap.size < u1.heap.size := M1.out.1.2.2
              have M2 : Hid (Own w (u1.alloc (.cells #[.int .i64 gf, .int .i64 gp, .int .i64 gd, .bool gw, .bool gtk, .int .i64 ga] 24)) w.heap.size T) := M1.out.grow (Go.Joins.below_alloc1 _ _)
              clear hb1 hM1
              go_wp2_with fail
              refine (RV.out _ M2.out.1).mono ?_
              rintro e u3 ⟨rfl, h1, h2⟩
              have M3 : Hid (Own w u3 w.heap.size T) := M2.out.next h1 h2
              have z0 : u3.cell? ⟨u1.heap.size, 0, none⟩ = some (.int .i64 gf) := cell_grown h2 (by simp) (by omega) (by simp)
              have z1 : u3.cell? ⟨u1.heap.size, 1, none⟩ = some (.int .i64 gp) := cell_grown h2 (by simp) (by omega) (by simp)
              have z2 : u3.cell? ⟨u1.heap.size, 2, none⟩ = some (.int .i64 gd) := cell_grown h2 (by simp) (by omega) (by simp)
              have z3 : u3.cell? ⟨u1.heap.size, 3, none⟩ = some (.bool gw) := cell_grown h2 (by simp) (by omega) (by simp)
              have z4 : u3.cell? ⟨u1.heap.size, 4, none⟩ = some (.bool gtk) := cell_grown h2 (by simp) (by omega) (by simp)
              have z5 : u3.cell? ⟨u1.heap.size, 5, none⟩ = some (.int .i64 ga) := cell_grown h2 (by simp) (by omega) (by simp)
              have lz : u1.heap.size < u3.heap.size := Nat.lt_of_lt_of_le (by simp) h2.size
              have y0 := z0
              have y1 := z1
              have y2 := z2
              have y3 := z3
              have y4 := z4
              have y5 := z5
              have ly := lz
              clear z0 z1 z2 z3 z4 z5 lz
              clear h1 h2
              have M4 : Hid (Own w (u3.alloc (.cells #[.int .i64 0, .int .i64 0, .int .i64 0, .bool false, .bool false, .int .i64 0] 24)) w.heap.size T) := M3.out.grow (Go.Joins.below_alloc1 _ _)
              go_wp2_with fail
              refine (LV.out _ M4.out.1).mono ?_
              rintro e u5 ⟨rfl, h1, h2⟩
              have M5 : Hid (Own w u5 w.heap.size T) := M4.out.next h1 h2
              have z0 : u5.cell? ⟨u1.heap.size, 0, none⟩ = some (.int .i64 gf) := cell_grown h2 (by first | omega | (simp; omega)) (by omega) (by first | exact y0 | exact (World.cell?_alloc_lt _ _ _ ly).trans y0)
              have z1 : u5.cell? ⟨u1.heap.size, 1, none⟩ = some (.int .i64 gp) := cell_grown h2 (by first | omega | (simp; omega)) (by omega) (by first | exact y1 | exact (World.cell?_alloc_lt _ _ _ ly).trans y1)
              have z2 : u5.cell? ⟨u1.heap.size, 2, none⟩ = some (.int .i64 gd) := cell_grown h2 (by first | omega | (simp; omega)) (by omega) (by first | exact y2 | exact (World.cell?_alloc_lt _ _ _ ly).trans y2)
              have z3 : u5.cell? ⟨u1.heap.size, 3, none⟩ = some (.bool gw) := cell_grown h2 (by first | omega | (simp; omega)) (by omega) (by first | exact y3 | exact (World.cell?_alloc_lt _ _ _ ly).trans y3)
              have z4 : u5.cell? ⟨u1.heap.size, 4, none⟩ = some (.bool gtk) := cell_grown h2 (by first | omega | (simp; omega)) (by omega) (by first | exact y4 | exact (World.cell?_alloc_lt _ _ _ ly).trans y4)
              have z5 : u5.cell? ⟨u1.heap.size, 5, none⟩ = some (.int .i64 ga) := cell_grown h2 (by first | omega | (simp; omega)) (by omega) (by first | exact y5 | exact (World.cell?_alloc_lt _ _ _ ly).trans y5)
              have lz : u1.heap.size < u5.heap.size := Nat.lt_of_lt_of_le (by first | omega | (simp; omega)) h2.size
              clear y0 y1 y2 y3 y4 y5 ly
              have y0 := z0
              have y1 := z1
              have y2 := z2
              have y3 := z3
              have y4 := z4
              have y5 := z5
              have ly := lz
              clear z0 z1 z2 z3 z4 z5 lz
              clear h1 h2
              have M6 : Hid (Own w (u5.alloc (.cells #[.int .i64 0, .int .i64 0, .int .i64 0, .bool false, .bool false, .int .i64 0] 24)) w.heap.size T) := M5.out.grow (Go.Joins.below_alloc1 _ _)
              go_wp2_with fail
              refine (AC.out _ M6.out.1).mono ?_
              rintro e u7 ⟨rfl, h1, h2⟩
              have M7 : Hid (Own w u7 w.heap.size T) := M6.out.next h1 h2
              have z0 : u7.cell? ⟨u1.heap.size, 0, none⟩ = some (.int .i64 gf) := cell_grown h2 (by first | omega | (simp; omega)) (by omega) (by first | exact y0 | exact (World.cell?_alloc_lt _ _ _ ly).trans y0)
              have z1 : u7.cell? ⟨u1.heap.size, 1, none⟩ = some (.int .i64 gp) := cell_grown h2 (by first | omega | (simp; omega)) (by omega) (by first | exact y1 | exact (World.cell?_alloc_lt _ _ _ ly).trans y1)
              have z2 : u7.cell? ⟨u1.heap.size, 2, none⟩ = some (.int .i64 gd) := cell_grown h2 (by first | omega | (simp; omega)) (by omega) (by first | exact y2 | exact (World.cell?_alloc_lt _ _ _ ly).trans y2)
              have z3 : u7.cell? ⟨u1.heap.size, 3, none⟩ = some (.bool gw) := cell_grown h2 (by first | omega | (simp; omega)) (by omega) (by first | exact y3 | exact (World.cell?_alloc_lt _ _ _ ly).trans y3)
              have z4 : u7.cell? ⟨u1.heap.size, 4, none⟩ = some (.bool gtk) := cell_grown h2 (by first | omega | (simp; omega)) (by omega) (by first | exact y4 | exact (World.cell?_alloc_lt _ _ _ ly).trans y4)
              have z5 : u7.cell? ⟨u1.heap.size, 5, none⟩ = some (.int .i64 ga) := cell_grown h2 (by first | omega | (simp; omega)) (by omega) (by first | exact y5 | exact (World.cell?_alloc_lt _ _ _ ly).trans y5)
              have lz : u1.heap.size < u7.heap.size := Nat.lt_of_lt_of_le (by first | omega | (simp; omega)) h2.size
              clear y0 y1 y2 y3 y4 y5 ly
              have y0 := z0
              have y1 := z1
              have y2 := z2
              have y3 := z3
              have y4 := z4
              have y5 := z5
              have ly := lz
              clear z0 z1 z2 z3 z4 z5 lz
              clear h1 h2
              go_wp2_with fail
              refine (GT.out _ M7.out.1).mono ?_
              rintro e u8 ⟨rfl, hb⟩
              have M8 : Hid (Own w u8 w.heap.size T) := M7.out.grow hb
              have z0 : u8.cell? ⟨u1.heap.size, 0, none⟩ = some (.int .i64 gf) := (hb.cell (p := ⟨u1.heap.size, 0, none⟩) (by first | omega | (simp; omega))).trans (by first | exact y0 | exact (World.cell?_alloc_lt _ _ _ ly).trans y0)
              have z1 : u8.cell? ⟨u1.heap.size, 1, none⟩ = some (.int .i64 gp) := (hb.cell (p := ⟨u1.heap.size, 1, none⟩) (by first | omega | (simp; omega))).trans (by first | exact y1 | exact (World.cell?_alloc_lt _ _ _ ly).trans y1)
              have z2 : u8.cell? ⟨u1.heap.size, 2, none⟩ = some (.int .i64 gd) := (hb.cell (p := ⟨u1.heap.size, 2, none⟩) (by first | omega | (simp; omega))).trans (by first | exact y2 | exact (World.cell?_alloc_lt _ _ _ ly).trans y2)
              have z3 : u8.cell? ⟨u1.heap.size, 3, none⟩ = some (.bool gw) := (hb.cell (p := ⟨u1.heap.size, 3, none⟩) (by first | omega | (simp; omega))).trans (by first | exact y3 | exact (World.cell?_alloc_lt _ _ _ ly).trans y3)
              have z4 : u8.cell? ⟨u1.heap.size, 4, none⟩ = some (.bool gtk) := (hb.cell (p := ⟨u1.heap.size, 4, none⟩) (by first | omega | (simp; omega))).trans (by first | exact y4 | exact (World.cell?_alloc_lt _ _ _ ly).trans y4)
              have z5 : u8.cell? ⟨u1.heap.size, 5, none⟩ = some (.int .i64 ga) := (hb.cell (p := ⟨u1.heap.size, 5, none⟩) (by first | omega | (simp; omega))).trans (by first | exact y5 | exact (World.cell?_alloc_lt _ _ _ ly).trans y5)
              have lz : u1.heap.size < u8.heap.size := Nat.lt_of_lt_of_le (by first | omega | (simp; omega)) hb.size
              clear y0 y1 y2 y3 y4 y5 ly
              have y0 := z0
              have y1 := z1
              have y2 := z2
              have y3 := z3
              have y4 := z4
              have y5 := z5
              have ly := lz
              clear z0 z1 z2 z3 z4 z5 lz
              clear hb
              have M9 : Hid (Own w (u8.alloc (.cells #[.int .i64 gf, .int .i64 gp, .int .i64 gd, .bool gw, .bool gtk, .int .i64 ga] 24)) w.heap.size T) := M8.out.grow (Go.Joins.below_alloc1 _ _)
              go_wp2_with fail
              refine (AW.out _).mono ?_
              rintro e u9 ⟨rfl, hb⟩
              have MA : Hid (Own w u9 w.heap.size T) := M9.out.grow hb
              have z0 : u9.cell? ⟨u1.heap.size, 0, none⟩ = some (.int .i64 gf) := (hb.cell (p := ⟨u1.heap.size, 0, none⟩) (by first | omega | (simp; omega))).trans (by first | exact y0 | exact (World.cell?_alloc_lt _ _ _ ly).trans y0)
              have x0 : u9.cell? ⟨u8.heap.size, 0, none⟩ = some (.int .i64 gf) := (hb.cell (p := ⟨u8.heap.size, 0, none⟩) (by simp)).trans (by simp)
              have z1 : u9.cell? ⟨u1.heap.size, 1, none⟩ = some (.int .i64 gp) := (hb.cell (p := ⟨u1.heap.size, 1, none⟩) (by first | omega | (simp; omega))).trans (by first | exact y1 | exact (World.cell?_alloc_lt _ _ _ ly).trans y1)
              have x1 : u9.cell? ⟨u8.heap.size, 1, none⟩ = some (.int .i64 gp) := (hb.cell (p := ⟨u8.heap.size, 1, none⟩) (by simp)).trans (by simp)
              have z2 : u9.cell? ⟨u1.heap.size, 2, none⟩ = some (.int .i64 gd) := (hb.cell (p := ⟨u1.heap.size, 2, none⟩) (by first | omega | (simp; omega))).trans (by first | exact y2 | exact (World.cell?_alloc_lt _ _ _ ly).trans y2)
              have x2 : u9.cell? ⟨u8.heap.size, 2, none⟩ = some (.int .i64 gd) := (hb.cell (p := ⟨u8.heap.size, 2, none⟩) (by simp)).trans (by simp)
              have z3 : u9.cell? ⟨u1.heap.size, 3, none⟩ = some (.bool gw) := (hb.cell (p := ⟨u1.heap.size, 3, none⟩) (by first | omega | (simp; omega))).trans (by first | exact y3 | exact (World.cell?_alloc_lt _ _ _ ly).trans y3)
              have x3 : u9.cell? ⟨u8.heap.size, 3, none⟩ = some (.bool gw) := (hb.cell (p := ⟨u8.heap.size, 3, none⟩) (by simp)).trans (by simp)
              have z4 : u9.cell? ⟨u1.heap.size, 4, none⟩ = some (.bool gtk) := (hb.cell (p := ⟨u1.heap.size, 4, none⟩) (by first | omega | (simp; omega))).trans (by first | exact y4 | exact (World.cell?_alloc_lt _ _ _ ly).trans y4)
              have x4 : u9.cell? ⟨u8.heap.size, 4, none⟩ = some (.bool gtk) := (hb.cell (p := ⟨u8.heap.size, 4, none⟩) (by simp)).trans (by simp)
              have z5 : u9.cell? ⟨u1.heap.size, 5, none⟩ = some (.int .i64 ga) := (hb.cell (p := ⟨u1.heap.size, 5, none⟩) (by first | omega | (simp; omega))).trans (by first | exact y5 | exact (World.cell?_alloc_lt _ _ _ ly).trans y5)
              have x5 : u9.cell? ⟨u8.heap.size, 5, none⟩ = some (.int .i64 ga) := (hb.cell (p := ⟨u8.heap.size, 5, none⟩) (by simp)).trans (by simp)
              clear hb y0 y1 y2 y3 y4 y5
              go_wp2_with fail
              go_ret
              exact ⟨rfl, MA.out.2.1⟩
          · have e1 : (gf == a2) = false := by simp [c1]
            have e2 : (gf != a2) = true := by simp [c1]
            by_cases c2 : gd = a2
            · have e3 : (gd == a2) = true := by simp [c2]
              have e4 : (gd != a2) = false := by simp [c2]
              clear c2
              go_wp2_with fail
              refine (GT.out _ hM1.out.1).mono ?_
              rintro e u1 ⟨rfl, hb1⟩
              have M1 : Hid (Own w u1 w.heap.size T) := hM1.out.grow hb1
              have l1 : w.heap.size < u1.heap.size := M1.out.1.2.2
              have M2 : Hid (Own w (u1.alloc (.cells #[.int .i64 gf, .int .i64 gp, .int .i64 gd, .bool gw, .bool gtk, .int .i64 ga] 24)) w.heap.size T) := M1.out.grow (Go.Joins.below_alloc1 _ _)
              clear hb1 hM1
              go_wp2_with fail
              refine (RV.out _ M2.out.1).mono ?_
              rintro e u3 ⟨rfl, h1, h2⟩
              have M3 : Hid (Own w u3 w.heap.size T) := M2.out.next h1 h2
              have z0 : u3.cell? ⟨u1.heap.size, 0, none⟩ = some (.int .i64 gf) := cell_grown h2 (by simp) (by omega) (by simp)
              have z1 : u3.cell? ⟨u1.heap.size, 1, none⟩ = some (.int .i64 gp) := cell_grown h2 (by simp) (by omega) (by simp)
              have z2 : u3.cell? ⟨u1.heap.size, 2, none⟩ = some (.int .i64 gd) := cell_grown h2 (by simp) (by omega) (by simp)
              have z3 : u3.cell? ⟨u1.heap.size, 3, none⟩ = some (.bool gw) := cell_grown h2 (by simp) (by omega) (by simp)
              have z4 : u3.cell? ⟨u1.heap.size, 4, none⟩ = some (.bool gtk) := cell_grown h2 (by simp) (by omega) (by simp)
              have z5 : u3.cell? ⟨u1.heap.size, 5, none⟩ = some (.int .i64 ga) := cell_grown h2 (by simp) (by omega) (by simp)
              have lz : u1.heap.size < u3.heap.size := Nat.lt_of_lt_of_le (by simp) h2.size
              have y0 := z0
              have y1 := z1
              have y2 := z2
              have y3 := z3
              have y4 := z4
              have y5 := z5
              have ly := lz
              clear z0 z1 z2 z3 z4 z5 lz
              clear h1 h2
              have M4 : Hid (Own w (u3.alloc (.cells #[.int .i64 0, .int .i64 0, .int .i64 0, .bool false, .bool false, .int .i64 0] 24)) w.heap.size T) := M3.out.grow (Go.Joins.below_alloc1 _ _)
              go_wp2_with fail
              refine (LV.out _ M4.out.1).mono ?_
              rintro e u5 ⟨rfl, h1, h2⟩
              have M5 : Hid (Own w u5 w.heap.size T) := M4.out.next h1 h2
              have z0 : u5.cell? ⟨u1.heap.size, 0, none⟩ = some (.int .i64 gf) := cell_grown h2 (by first | omega | (simp; omega)) (by omega) (by first | exact y0 | exact (World.cell?_alloc_lt _ _ _ ly).trans y0)
              have z1 : u5.cell? ⟨u1.heap.size, 1, none⟩ = some (.int .i64 gp) := cell_grown h2 (by first | omega | (simp; omega)) (by omega) (by first | exact y1 | exact (World.cell?_alloc_lt _ _ _ ly).trans y1)
              have z2 : u5.cell? ⟨u1.heap.size, 2, none⟩ = some (.int .i64 gd) := cell_grown h2 (by first | omega | (simp; omega)) (by omega) (by first | exact y2 | exact (World.cell?_alloc_lt _ _ _ ly).trans y2)
              have z3 : u5.cell? ⟨u1.heap.size, 3, none⟩ = some (.bool gw) := cell_grown h2 (by first | omega | (simp; omega)) (by omega) (by first | exact y3 | exact (World.cell?_alloc_lt _ _ _ ly).trans y3)
              have z4 : u5.cell? ⟨u1.heap.size, 4, none⟩ = some (.bool gtk) := cell_grown h2 (by first | omega | (simp; omega)) (by omega) (by first | exact y4 | exact (World.cell?_alloc_lt _ _ _ ly).trans y4)
              have z5 : u5.cell? ⟨u1.heap.size, 5, none⟩ = some (.int .i64 ga) := cell_grown h2 (by first | omega | (simp; omega)) (by omega) (by first | exact y5 | exact (World.cell?_alloc_lt _ _ _ ly).trans y5)
              have lz : u1.heap.size < u5.heap.size := Nat.lt_of_lt_of_le (by first | omega | (simp; omega)) h2.size
              clear y0 y1 y2 y3 y4 y5 ly
              have y0 := z0
              have y1 := z1
              have y2 := z2
              have y3 := z3
              have y4 := z4
              have y5 := z5
              have ly := lz
              clear z0 z1 z2 z3 z4 z5 lz
              clear h1 h2
              have M6 : Hid (Own w (u5.alloc (.cells #[.int .i64 0, .int .i64 0, .int .i64 0, .bool false, .bool false, .int .i64 0] 24)) w.heap.size T) := M5.out.grow (Go.Joins.below_alloc1 _ _)
              go_wp2_with fail
              refine (AC.out _ M6.out.1).mono ?_
              rintro e u7 ⟨rfl, h1, h2⟩
              have M7 : Hid (Own w u7 w.heap.size T) := M6.out.next h1 h2
              have z0 : u7.cell? ⟨u1.heap.size, 0, none⟩ = some (.int .i64 gf) := cell_grown h2 (by first | omega | (simp; omega)) (by omega) (by first | exact y0 | exact (World.cell?_alloc_lt _ _ _ ly).trans y0)
              have z1 : u7.cell? ⟨u1.heap.size, 1, none⟩ = some (.int .i64 gp) := cell_grown h2 (by first | omega | (simp; omega)) (by omega) (by first | exact y1 | exact (World.cell?_alloc_lt _ _ _ ly).trans y1)
              have z2 : u7.cell? ⟨u1.heap.size, 2, none⟩ = some (.int .i64 gd) := cell_grown h2 (by first | omega | (simp; omega)) (by omega) (by first | exact y2 | exact (World.cell?_alloc_lt _ _ _ ly).trans y2)
              have z3 : u7.cell? ⟨u1.heap.size, 3, none⟩ = some (.bool gw) := cell_grown h2 (by first | omega | (simp; omega)) (by omega) (by first | exact y3 | exact (World.cell?_alloc_lt _ _ _ ly).trans y3)
              have z4 : u7.cell? ⟨u1.heap.size, 4, none⟩ = some (.bool gtk) := cell_grown h2 (by first | omega | (simp; omega)) (by omega) (by first | exact y4 | exact (World.cell?_alloc_lt _ _ _ ly).trans y4)
              have z5 : u7.cell? ⟨u1.heap.size, 5, none⟩ = some (.int .i64 ga) := cell_grown h2 (by first | omega | (simp; omega)) (by omega) (by first | exact y5 | exact (World.cell?_alloc_lt _ _ _ ly).trans y5)
              have lz : u1.heap.size < u7.heap.size := Nat.lt_of_lt_of_le (by first | omega | (simp; omega)) h2.size
              clear y0 y1 y2 y3 y4 y5 ly
              have y0 := z0
              have y1 := z1
              have y2 := z2
              have y3 := z3
              have y4 := z4
              have y5 := z5
              have ly := lz
              clear z0 z1 z2 z3 z4 z5 lz
              clear h1 h2
              go_wp2_with fail
              refine (GT.out _ M7.out.1).mono ?_
              rintro e u8 ⟨rfl, hb⟩
              have M8 : Hid (Own w u8 w.heap.size T) := M7.out.grow hb
              have z0 : u8.cell? ⟨u1.heap.size, 0, none⟩ = some (.int .i64 gf) := (hb.cell (p := ⟨u1.heap.size, 0, none⟩) (by first | omega | (simp; omega))).trans (by first | exact y0 | exact (World.cell?_alloc_lt _ _ _ ly).trans y0)
              have z1 : u8.cell? ⟨u1.heap.size, 1, none⟩ = some (.int .i64 gp) := (hb.cell (p := ⟨u1.heap.size, 1, none⟩) (by first | omega | (simp; omega))).trans (by first | exact y1 | exact (World.cell?_alloc_lt _ _ _ ly).trans y1)
              have z2 : u8.cell? ⟨u1.heap.size, 2, none⟩ = some (.int .i64 gd) := (hb.cell (p := ⟨u1.heap.size, 2, none⟩) (by first | omega | (simp; omega))).trans (by first | exact y2 | exact (World.cell?_alloc_lt _ _ _ ly).trans y2)
              have z3 : u8.cell? ⟨u1.heap.size, 3, none⟩ = some (.bool gw) := (hb.cell (p := ⟨u1.heap.size, 3, none⟩) (by first | omega | (simp; omega))).trans (by first | exact y3 | exact (World.cell?_alloc_lt _ _ _ ly).trans y3)
              have z4 : u8.cell? ⟨u1.heap.size, 4, none⟩ = some (.bool gtk) := (hb.cell (p := ⟨u1.heap.size, 4, none⟩) (by first | omega | (simp; omega))).trans (by first | exact y4 | exact (World.cell?_alloc_lt _ _ _ ly).trans y4)
              have z5 : u8.cell? ⟨u1.heap.size, 5, none⟩ = some (.int .i64 ga) := (hb.cell (p := ⟨u1.heap.size, 5, none⟩) (by first | omega | (simp; omega))).trans (by first | exact y5 | exact (World.cell?_alloc_lt _ _ _ ly).trans y5)
              have lz : u1.heap.size < u8.heap.size := Nat.lt_of_lt_of_le (by first | omega | (simp; omega)) hb.size
              clear y0 y1 y2 y3 y4 y5 ly
              have y0 := z0
              have y1 := z1
              have y2 := z2
              have y3 := z3
              have y4 := z4
              have y5 := z5
              have ly := lz
              clear z0 z1 z2 z3 z4 z5 lz
              clear hb
              have M9 : Hid (Own w (u8.alloc (.cells #[.int .i64 gf, .int .i64 gp, .int .i64 gd, .bool gw, .bool gtk, .int .i64 ga] 24)) w.heap.size T) := M8.out.grow (Go.Joins.below_alloc1 _ _)
              go_wp2_with fail
              refine (AW.out _).mono ?_
              rintro e u9 ⟨rfl, hb⟩
              have MA : Hid (Own w u9 w.heap.size T) := M9.out.grow hb
              have z0 : u9.cell? ⟨u1.heap.size, 0, none⟩ = some (.int .i64 gf) := (hb.cell (p := ⟨u1.heap.size, 0, none⟩) (by first | omega | (simp; omega))).trans (by first | exact y0 | exact (World.cell?_alloc_lt _ _ _ ly).trans y0)
              have x0 : u9.cell? ⟨u8.heap.size, 0, none⟩ = some (.int .i64 gf) := (hb.cell (p := ⟨u8.heap.size, 0, none⟩) (by simp)).trans (by simp)
              have z1 : u9.cell? ⟨u1.heap.size, 1, none⟩ = some (.int .i64 gp) := (hb.cell (p := ⟨u1.heap.size, 1, none⟩) (by first | omega | (simp; omega))).trans (by first | exact y1 | exact (World.cell?_alloc_lt _ _ _ ly).trans y1)
              have x1 : u9.cell? ⟨u8.heap.size, 1, none⟩ = some (.int .i64 gp) := (hb.cell (p := ⟨u8.heap.size, 1, none⟩) (by simp)).trans (by simp)
              have z2 : u9.cell? ⟨u1.heap.size, 2, none⟩ = some (.int .i64 gd) := (hb.cell (p := ⟨u1.heap.size, 2, none⟩) (by first | omega | (simp; omega))).trans (by first | exact y2 | exact (World.cell?_alloc_lt _ _ _ ly).trans y2)
              have x2 : u9.cell? ⟨u8.heap.size, 2, none⟩ = some (.int .i64 gd) := (hb.cell (p := ⟨u8.heap.size, 2, none⟩) (by simp)).trans (by simp)
              have z3 : u9.cell? ⟨u1.heap.size, 3, none⟩ = some (.bool gw) := (hb.cell (p := ⟨u1.heap.size, 3, none⟩) (by first | omega | (simp; omega))).trans (by first | exact y3 | exact (World.cell?_alloc_lt _ _ _ ly).trans y3)
              have x3 : u9.cell? ⟨u8.heap.size, 3, none⟩ = some (.bool gw) := (hb.cell (p := ⟨u8.heap.size, 3, none⟩) (by simp)).trans (by simp)
              have z4 : u9.cell? ⟨u1.heap.size, 4, none⟩ = some (.bool gtk) := (hb.cell (p := ⟨u1.heap.size, 4, none⟩) (by first | omega | (simp; omega))).trans (by first | exact y4 | exact (World.cell?_alloc_lt _ _ _ ly).trans y4)
              have x4 : u9.cell? ⟨u8.heap.size, 4, none⟩ = some (.bool gtk) := (hb.cell (p := ⟨u8.heap.size, 4, none⟩) (by simp)).trans (by simp)
              have z5 : u9.cell? ⟨u1.heap.size, 5, none⟩ = some (.int .i64 ga) := (hb.cell (p := ⟨u1.heap.size, 5, none⟩) (by first | omega | (simp; omega))).trans (by first | exact y5 | exact (World.cell?_alloc_lt _ _ _ ly).trans y5)
              have x5 : u9.cell? ⟨u8.heap.size, 5, none⟩ = some (.int .i64 ga) := (hb.cell (p := ⟨u8.heap.size, 5, none⟩) (by simp)).trans (by simp)
              clear hb y0 y1 y2 y3 y4 y5
              go_wp2_with fail
              go_ret
              exact ⟨rfl, MA.out.2.1⟩
            · have e3 : (gd == a2) = false := by simp [c2]
              have e4 : (gd != a2) = true := by simp [c2]
              go_wp2_with fail
              refine (GT.out _ hM1.out.1).mono ?_
              rintro e u1 ⟨rfl, hb1⟩
              have M1 : Hid (Own w u1 w.heap.size T) := hM1.out.grow hb1
              have l1 : w.heap.size < u1.heap.size := M1.out.1.2.2
              have M2 : Hid (Own w (u1.alloc (.cells #[.int .i64 gf, .int .i64 gp, .int .i64 gd, .bool gw, .bool gtk, .int .i64 ga] 24)) w.heap.size T) := M1.out.grow (Go.Joins.below_alloc1 _ _)
              clear hb1 hM1
              go_wp2_with fail
              refine (RV.out _ M2.out.1).mono ?_
              rintro e u3 ⟨rfl, h1, h2⟩
              have M3 : Hid (Own w u3 w.heap.size T) := M2.out.next h1 h2
              have z0 : u3.cell? ⟨u1.heap.size, 0, none⟩ = some (.int .i64 gf) := cell_grown h2 (by simp) (by omega) (by simp)
              have z1 : u3.cell? ⟨u1.heap.size, 1, none⟩ = some (.int .i64 gp) := cell_grown h2 (by simp) (by omega) (by simp)
              have z2 : u3.cell? ⟨u1.heap.size, 2, none⟩ = some (.int .i64 gd) := cell_grown h2 (by simp) (by omega) (by simp)
              have z3 : u3.cell? ⟨u1.heap.size, 3, none⟩ = some (.bool gw) := cell_grown h2 (by simp) (by omega) (by simp)
              have z4 : u3.cell? ⟨u1.heap.size, 4, none⟩ = some (.bool gtk) := cell_grown h2 (by simp) (by omega) (by simp)
              have z5 : u3.cell? ⟨u1.heap.size, 5, none⟩ = some (.int .i64 ga) := cell_grown h2 (by simp) (by omega) (by simp)
              have lz : u1.heap.size < u3.heap.size := Nat.lt_of_lt_of_le (by simp) h2.size
              have y0 := z0
              have y1 := z1
              have y2 := z2
              have y3 := z3
              have y4 := z4
              have y5 := z5
              have ly := lz
              clear z0 z1 z2 z3 z4 z5 lz
              clear h1 h2
              have M4 : Hid (Own w (u3.alloc (.cells #[.int .i64 0, .int .i64 0, .int .i64 0, .bool false, .bool false, .int .i64 0] 24)) w.heap.size T) := M3.out.grow (Go.Joins.below_alloc1 _ _)
              go_wp2_with fail
              refine (LV.out _ M4.out.1).mono ?_
              rintro e u5 ⟨rfl, h1, h2⟩
              have M5 : Hid (Own w u5 w.heap.size T) := M4.out.next h1 h2
              have z0 : u5.cell? ⟨u1.heap.size, 0, none⟩ = some (.int .i64 gf) := cell_grown h2 (by first | omega | (simp; omega)) (by omega) (by first | exact y0 | exact (World.cell?_alloc_lt _ _ _ ly).trans y0)
              have z1 : u5.cell? ⟨u1.heap.size, 1, none⟩ = some (.int .i64 gp) := cell_grown h2 (by first | omega | (simp; omega)) (by omega) (by first | exact y1 | exact (World.cell?_alloc_lt _ _ _ ly).trans y1)
              have z2 : u5.cell? ⟨u1.heap.size, 2, none⟩ = some (.int .i64 gd) := cell_grown h2 (by first | omega | (simp; omega)) (by omega) (by first | exact y2 | exact (World.cell?_alloc_lt _ _ _ ly).trans y2)
              have z3 : u5.cell? ⟨u1.heap.size, 3, none⟩ = some (.bool gw) := cell_grown h2 (by first | omega | (simp; omega)) (by omega) (by first | exact y3 | exact (World.cell?_alloc_lt _ _ _ ly).trans y3)
              have z4 : u5.cell? ⟨u1.heap.size, 4, none⟩ = some (.bool gtk) := cell_grown h2 (by first | omega | (simp; omega)) (by omega) (by first | exact y4 | exact (World.cell?_alloc_lt _ _ _ ly).trans y4)
              have z5 : u5.cell? ⟨u1.heap.size, 5, none⟩ = some (.int .i64 ga) := cell_grown h2 (by first | omega | (simp; omega)) (by omega) (by first | exact y5 | exact (World.cell?_alloc_lt _ _ _ ly).trans y5)
              have lz : u1.heap.size < u5.heap.size := Nat.lt_of_lt_of_le (by first | omega | (simp; omega)) h2.size
              clear y0 y1 y2 y3 y4 y5 ly
              have y0 := z0
              have y1 := z1
              have y2 := z2
              have y3 := z3
              have y4 := z4
              have y5 := z5
              have ly := lz
              clear z0 z1 z2 z3 z4 z5 lz
              clear h1 h2
              have M6 : Hid (Own w (u5.alloc (.cells #[.int .i64 0, .int .i64 0, .int .i64 0, .bool false, .bool false, .int .i64 0] 24)) w.heap.size T) := M5.out.grow (Go.Joins.below_alloc1 _ _)
              go_wp2_with fail
              refine (AC.out _ M6.out.1).mono ?_
              rintro e u7 ⟨rfl, h1, h2⟩
              have M7 : Hid (Own w u7 w.heap.size T) := M6.out.next h1 h2
              have z0 : u7.cell? ⟨u1.heap.size, 0, none⟩ = some (.int .i64 gf) := cell_grown h2 (by first | omega | (simp; omega)) (by omega) (by first | exact y0 | exact (World.cell?_alloc_lt _ _ _ ly).trans y0)
              have z1 : u7.cell? ⟨u1.heap.size, 1, none⟩ = some (.int .i64 gp) := cell_grown h2 (by first | omega | (simp; omega)) (by omega) (by first | exact y1 | exact (World.cell?_alloc_lt _ _ _ ly).trans y1)
              have z2 : u7.cell? ⟨u1.heap.size, 2, none⟩ = some (.int .i64 gd) := cell_grown h2 (by first | omega | (simp; omega)) (by omega) (by first | exact y2 | exact (World.cell?_alloc_lt _ _ _ ly).trans y2)
              have z3 : u7.cell? ⟨u1.heap.size, 3, none⟩ = some (.bool gw) := cell_grown h2 (by first | omega | (simp; omega)) (by omega) (by first | exact y3 | exact (World.cell?_alloc_lt _ _ _ ly).trans y3)
              have z4 : u7.cell? ⟨u1.heap.size, 4, none⟩ = some (.bool gtk) := cell_grown h2 (by first | omega | (simp; omega)) (by omega) (by first | exact y4 | exact (World.cell?_alloc_lt _ _ _ ly).trans y4)
              have z5 : u7.cell? ⟨u1.heap.size, 5, none⟩ = some (.int .i64 ga) := cell_grown h2 (by first | omega | (simp; omega)) (by omega) (by first | exact y5 | exact (World.cell?_alloc_lt _ _ _ ly).trans y5)
              have lz : u1.heap.size < u7.heap.size := Nat.lt_of_lt_of_le (by first | omega | (simp; omega)) h2.size
              clear y0 y1 y2 y3 y4 y5 ly
              have y0 := z0
              have y1 := z1
              have y2 := z2
              have y3 := z3
              have y4 := z4
              have y5 := z5
              have ly := lz
              clear z0 z1 z2 z3 z4 z5 lz
              clear h1 h2
              go_wp2_with fail
              refine (GT.out _ M7.out.1).mono ?_
              rintro e u8 ⟨rfl, hb⟩
              have M8 : Hid (Own w u8 w.heap.size T) := M7.out.grow hb
              have z0 : u8.cell? ⟨u1.heap.size, 0, none⟩ = some (.int .i64 gf) := (hb.cell (p := ⟨u1.heap.size, 0, none⟩) (by first | omega | (simp; omega))).trans (by first | exact y0 | exact (World.cell?_alloc_lt _ _ _ ly).trans y0)
              have z1 : u8.cell? ⟨u1.heap.size, 1, none⟩ = some (.int .i64 gp) := (hb.cell (p := ⟨u1.heap.size, 1, none⟩) (by first | omega | (simp; omega))).trans (by first | exact y1 | exact (World.cell?_alloc_lt _ _ _ ly).trans y1)
              have z2 : u8.cell? ⟨u1.heap.size, 2, none⟩ = some (.int .i64 gd) := (hb.cell (p := ⟨u1.heap.size, 2, none⟩) (by first | omega | (simp; omega))).trans (by first | exact y2 | exact (World.cell?_alloc_lt _ _ _ ly).trans y2)
              have z3 : u8.cell? ⟨u1.heap.size, 3, none⟩ = some (.bool gw) := (hb.cell (p := ⟨u1.heap.size, 3, none⟩) (by first | omega | (simp; omega))).trans (by first | exact y3 | exact (World.cell?_alloc_lt _ _ _ ly).trans y3)
              have z4 : u8.cell? ⟨u1.heap.size, 4, none⟩ = some (.bool gtk) := (hb.cell (p := ⟨u1.heap.size, 4, none⟩) (by first | omega | (simp; omega))).trans (by first | exact y4 | exact (World.cell?_alloc_lt _ _ _ ly).trans y4)
              have z5 : u8.cell? ⟨u1.heap.size, 5, none⟩ = some (.int .i64 ga) := (hb.cell (p := ⟨u1.heap.size, 5, none⟩) (by first | omega | (simp; omega))).trans (by first | exact y5 | exact (World.cell?_alloc_lt _ _ _ ly).trans y5)
              have lz : u1.heap.size < u8.heap.size := Nat.lt_of_lt_of_le (by first | omega | (simp; omega)) hb.size
              clear y0 y1 y2 y3 y4 y5 ly
              have y0 := z0
              have y1 := z1
              have y2 := z2
              have y3 := z3
              have y4 := z4
              have y5 := z5
              have ly := lz
              clear z0 z1 z2 z3 z4 z5 lz
              clear hb
              have M9 : Hid (Own w (u8.alloc (.cells #[.int .i64 gf, .int .i64 gp, .int .i64 gd, .bool gw, .bool gtk, .int .i64 ga] 24)) w.heap.size T) := M8.out.grow (Go.Joins.below_alloc1 _ _)
              go_wp2_with fail
              refine (AW.out _).mono ?_
              rintro e u9 ⟨rfl, hb⟩
              have MA : Hid (Own w u9 w.heap.size T) := M9.out.grow hb
              have z0 : u9.cell? ⟨u1.heap.size, 0, none⟩ = some (.int .i64 gf) := (hb.cell (p := ⟨u1.heap.size, 0, none⟩) (by first | omega | (simp; omega))).trans (by first | exact y0 | exact (World.cell?_alloc_lt _ _ _ ly).trans y0)
              have x0 : u9.cell? ⟨u8.heap.size, 0, none⟩ = some (.int .i64 gf) := (hb.cell (p := ⟨u8.heap.size, 0, none⟩) (by simp)).trans (by simp)
              have z1 : u9.cell? ⟨u1.heap.size, 1, none⟩ = some (.int .i64 gp) := (hb.cell (p := ⟨u1.heap.size, 1, none⟩) (by first | omega | (simp; omega))).trans (by first | exact y1 | exact (World.cell?_alloc_lt _ _ _ ly).trans y1)
              have x1 : u9.cell? ⟨u8.heap.size, 1, none⟩ = some (.int .i64 gp) := (hb.cell (p := ⟨u8.heap.size, 1, none⟩) (by simp)).trans (by simp)
              have z2 : u9.cell? ⟨u1.heap.size, 2, none⟩ = some (.int .i64 gd) := (hb.cell (p := ⟨u1.heap.size, 2, none⟩) (by first | omega | (simp; omega))).trans (by first | exact y2 | exact (World.cell?_alloc_lt _ _ _ ly).trans y2)
              have x2 : u9.cell? ⟨u8.heap.size, 2, none⟩ = some (.int .i64 gd) := (hb.cell (p := ⟨u8.heap.size, 2, none⟩) (by simp)).trans (by simp)
              have z3 : u9.cell? ⟨u1.heap.size, 3, none⟩ = some (.bool gw) := (hb.cell (p := ⟨u1.heap.size, 3, none⟩) (by first | omega | (simp; omega))).trans (by first | exact y3 | exact (World.cell?_alloc_lt _ _ _ ly).trans y3)
              have x3 : u9.cell? ⟨u8.heap.size, 3, none⟩ = some (.bool gw) := (hb.cell (p := ⟨u8.heap.size, 3, none⟩) (by simp)).trans (by simp)
              have z4 : u9.cell? ⟨u1.heap.size, 4, none⟩ = some (.bool gtk) := (hb.cell (p := ⟨u1.heap.size, 4, none⟩) (by first | omega | (simp; omega))).trans (by first | exact y4 | exact (World.cell?_alloc_lt _ _ _ ly).trans y4)
              have x4 : u9.cell? ⟨u8.heap.size, 4, none⟩ = some (.bool gtk) := (hb.cell (p := ⟨u8.heap.size, 4, none⟩) (by simp)).trans (by simp)
              have z5 : u9.cell? ⟨u1.heap.size, 5, none⟩ = some (.int .i64 ga) := (hb.cell (p := ⟨u1.heap.size, 5, none⟩) (by first | omega | (simp; omega))).trans (by first | exact y5 | exact (World.cell?_alloc_lt _ _ _ ly).trans y5)
              have x5 : u9.cell? ⟨u8.heap.size, 5, none⟩ = some (.int .i64 ga) := (hb.cell (p := ⟨u8.heap.size, 5, none⟩) (by simp)).trans (by simp)
              clear hb y0 y1 y2 y3 y4 y5
              go_wp2_with fail
              go_ret
              exact ⟨rfl, MA.out.2.1⟩
        · by_cases c1 : gf = a2
          · have e1 : (gf == a2) = true := by simp [c1]
            have e2 : (gf != a2) = false := by simp [c1]
            clear c1
            by_cases c2 : gd = a2
            · have e3 : (gd == a2) = true := by simp [c2]
              have e4 : (gd != a2) = false := by simp [c2]
              clear c2 rv lv ac
              go_wp2_with fail
              refine (GT.out _ hM1.out.1).mono ?_
              rintro e u1 ⟨rfl, hb1⟩
              have M1 : Hid (Own w u1 w.heap.size T) := hM1.out.grow hb1
              have l1 : w.heap.size < u1.heap.size := M1.out.1.2.2
              have M2 : Hid (Own w (u1.alloc (.cells #[.int .i64 gf, .int .i64 gp, .int .i64 gd, .bool gw, .bool gtk, .int .i64 ga] 24)) w.heap.size T) := M1.out.grow (Go.Joins.below_alloc1 _ _)
              clear hb1 hM1
              go_wp2_with fail
              refine (GT.out _ M2.out.1).mono ?_
              rintro e u8 ⟨rfl, hb⟩
              have M8 : Hid (Own w u8 w.heap.size T) := M2.out.grow hb
              have z0 : u8.cell? ⟨u1.heap.size, 0, none⟩ = some (.int .i64 gf) := (hb.cell (p := ⟨u1.heap.size, 0, none⟩) (by simp)).trans (by simp)
              have z1 : u8.cell? ⟨u1.heap.size, 1, none⟩ = some (.int .i64 gp) := (hb.cell (p := ⟨u1.heap.size, 1, none⟩) (by simp)).trans (by simp)
              have z2 : u8.cell? ⟨u1.heap.size, 2, none⟩ = some (.int .i64 gd) := (hb.cell (p := ⟨u1.heap.size, 2, none⟩) (by simp)).trans (by simp)
              have z3 : u8.cell? ⟨u1.heap.size, 3, none⟩ = some (.bool gw) := (hb.cell (p := ⟨u1.heap.size, 3, none⟩) (by simp)).trans (by simp)
              have z4 : u8.cell? ⟨u1.heap.size, 4, none⟩ = some (.bool gtk) := (hb.cell (p := ⟨u1.heap.size, 4, none⟩) (by simp)).trans (by simp)
              have z5 : u8.cell? ⟨u1.heap.size, 5, none⟩ = some (.int .i64 ga) := (hb.cell (p := ⟨u1.heap.size, 5, none⟩) (by simp)).trans (by simp)
              have lz : u1.heap.size < u8.heap.size := Nat.lt_of_lt_of_le (by simp) hb.size
              have y0 := z0
              have y1 := z1
              have y2 := z2
              have y3 := z3
              have y4 := z4
              have y5 := z5
              have ly := lz
              clear z0 z1 z2 z3 z4 z5 lz
              clear hb
              have M9 : Hid (Own w (u8.alloc (.cells #[.int .i64 gf, .int .i64 gp, .int .i64 gd, .bool gw, .bool gtk, .int .i64 ga] 24)) w.heap.size T) := M8.out.grow (Go.Joins.below_alloc1 _ _)
              go_wp2_with fail
              refine (AW.out _).mono ?_
              rintro e u9 ⟨rfl, hb⟩
              have MA : Hid (Own w u9 w.heap.size T) := M9.out.grow hb
              have z0 : u9.cell? ⟨u1.heap.size, 0, none⟩ = some (.int .i64 gf) := (hb.cell (p := ⟨u1.heap.size, 0, none⟩) (by first | omega | (simp; omega))).trans (by first | exact y0 | exact (World.cell?_alloc_lt _ _ _ ly).trans y0)
              have x0 : u9.cell? ⟨u8.heap.size, 0, none⟩ = some (.int .i64 gf) := (hb.cell (p := ⟨u8.heap.size, 0, none⟩) (by simp)).trans (by simp)
              have z1 : u9.cell? ⟨u1.heap.size, 1, none⟩ = some (.int .i64 gp) := (hb.cell (p := ⟨u1.heap.size, 1, none⟩) (by first | omega | (simp; omega))).trans (by first | exact y1 | exact (World.cell?_alloc_lt _ _ _ ly).trans y1)
              have x1 : u9.cell? ⟨u8.heap.size, 1, none⟩ = some (.int .i64 gp) := (hb.cell (p := ⟨u8.heap.size, 1, none⟩) (by simp)).trans (by simp)
              have z2 : u9.cell? ⟨u1.heap.size, 2, none⟩ = some (.int .i64 gd) := (hb.cell (p := ⟨u1.heap.size, 2, none⟩) (by first | omega | (simp; omega))).trans (by first | exact y2 | exact (World.cell?_alloc_lt _ _ _ ly).trans y2)
              have x2 : u9.cell? ⟨u8.heap.size, 2, none⟩ = some (.int .i64 gd) := (hb.cell (p := ⟨u8.heap.size, 2, none⟩) (by simp)).trans (by simp)
              have z3 : u9.cell? ⟨u1.heap.size, 3, none⟩ = some (.bool gw) := (hb.cell (p := ⟨u1.heap.size, 3, none⟩) (by first | omega | (simp; omega))).trans (by first | exact y3 | exact (World.cell?_alloc_lt _ _ _ ly).trans y3)
              have x3 : u9.cell? ⟨u8.heap.size, 3, none⟩ = some (.bool gw) := (hb.cell (p := ⟨u8.heap.size, 3, none⟩) (by simp)).trans (by simp)
              have z4 : u9.cell? ⟨u1.heap.size, 4, none⟩ = some (.bool gtk) := (hb.cell (p := ⟨u1.heap.size, 4, none⟩) (by first | omega | (simp; omega))).trans (by first | exact y4 | exact (World.cell?_alloc_lt _ _ _ ly).trans y4)
              have x4 : u9.cell? ⟨u8.heap.size, 4, none⟩ = some (.bool gtk) := (hb.cell (p := ⟨u8.heap.size, 4, none⟩) (by simp)).trans (by simp)
              have z5 : u9.cell? ⟨u1.heap.size, 5, none⟩ = some (.int .i64 ga) := (hb.cell (p := ⟨u1.heap.size, 5, none⟩) (by first | omega | (simp; omega))).trans (by first | exact y5 | exact (World.cell?_alloc_lt _ _ _ ly).trans y5)
              have x5 : u9.cell? ⟨u8.heap.size, 5, none⟩ = some (.int .i64 ga) := (hb.cell (p := ⟨u8.heap.size, 5, none⟩) (by simp)).trans (by simp)
              clear hb y0 y1 y2 y3 y4 y5
              go_wp2_with fail
              go_ret
              exact ⟨rfl, MA.out.2.1⟩
            · have e3 : (gd == a2) = false := by simp [c2]
              have e4 : (gd != a2) = true := by simp [c2]
              have LV : Hid _ := lv (Or.inr c2)
              have AC : Hid _ := ac (Or.inr c2)
              clear rv lv ac
              go_wp2_with fail
              refine (GT.out _ hM1.out.1).mono ?_
              rintro e u1 ⟨rfl, hb1⟩
              have M1 : Hid (Own w u1 w.heap.size T) := hM1.out.grow hb1
              have l1 : w.heap.size < u1.heap.size := M1.out.1.2.2
              have M2 : Hid (Own w (u1.alloc (.cells #[.int .i64 gf, .int .i64 gp, .int .i64 gd, .bool gw, .bool gtk, .int .i64 ga] 24)) w.heap.size T) := M1.out.grow (Go.Joins.below_alloc1 _ _)
              clear hb1 hM1
              go_wp2_with fail
              refine (LV.out _ M2.out.1).mono ?_
              rintro e u5 ⟨rfl, h1, h2⟩
              have M5 : Hid (Own w u5 w.heap.size T) := M2.out.next h1 h2
              have z0 : u5.cell? ⟨u1.heap.size, 0, none⟩ = some (.int .i64 gf) := cell_grown h2 (by simp) (by omega) (by simp)
              have z1 : u5.cell? ⟨u1.heap.size, 1, none⟩ = some (.int .i64 gp) := cell_grown h2 (by simp) (by omega) (by simp)
              have z2 : u5.cell? ⟨u1.heap.size, 2, none⟩ = some (.int .i64 gd) := cell_grown h2 (by simp) (by omega) (by simp)
              have z3 : u5.cell? ⟨u1.heap.size, 3, none⟩ = some (.bool gw) := cell_grown h2 (by simp) (by omega) (by simp)
              have z4 : u5.cell? ⟨u1.heap.size, 4, none⟩ = some (.bool gtk) := cell_grown h2 (by simp) (by omega) (by simp)
              have z5 : u5.cell? ⟨u1.heap.size, 5, none⟩ = some (.int .i64 ga) := cell_grown h2 (by simp) (by omega) (by simp)
              have lz : u1.heap.size < u5.heap.size := Nat.lt_of_lt_of_le (by simp) h2.size
              have y0 := z0
              have y1 := z1
              have y2 := z2
              have y3 := z3
              have y4 := z4
              have y5 := z5
              have ly := lz
              clear z0 z1 z2 z3 z4 z5 lz
              clear h1 h2
              have M6 : Hid (Own w (u5.alloc (.cells #[.int .i64 0, .int .i64 0, .int .i64 0, .bool false, .bool false, .int .i64 0] 24)) w.heap.size T) := M5.out.grow (Go.Joins.below_alloc1 _ _)
              go_wp2_with fail
              refine (AC.out _ M6.out.1).mono ?_
              rintro e u7 ⟨rfl, h1, h2⟩
              have M7 : Hid (Own w u7 w.heap.size T) := M6.out.next h1 h2
              have z0 : u7.cell? ⟨u1.heap.size, 0, none⟩ = some (.int .i64 gf) := cell_grown h2 (by first | omega | (simp; omega)) (by omega) (by first | exact y0 | exact (World.cell?_alloc_lt _ _ _ ly).trans y0)
              have z1 : u7.cell? ⟨u1.heap.size, 1, none⟩ = some (.int .i64 gp) := cell_grown h2 (by first | omega | (simp; omega)) (by omega) (by first | exact y1 | exact (World.cell?_alloc_lt _ _ _ ly).trans y1)
              have z2 : u7.cell? ⟨u1.heap.size, 2, none⟩ = some (.int .i64 gd) := cell_grown h2 (by first | omega | (simp; omega)) (by omega) (by first | exact y2 | exact (World.cell?_alloc_lt _ _ _ ly).trans y2)
              have z3 : u7.cell? ⟨u1.heap.size, 3, none⟩ = some (.bool gw) := cell_grown h2 (by first | omega | (simp; omega)) (by omega) (by first | exact y3 | exact (World.cell?_alloc_lt _ _ _ ly).trans y3)
              have z4 : u7.cell? ⟨u1.heap.size, 4, none⟩ = some (.bool gtk) := cell_grown h2 (by first | omega | (simp; omega)) (by omega) (by first | exact y4 | exact (World.cell?_alloc_lt _ _ _ ly).trans y4)
              have z5 : u7.cell? ⟨u1.heap.size, 5, none⟩ = some (.int .i64 ga) := cell_grown h2 (by first | omega | (simp; omega)) (by omega) (by first | exact y5 | exact (World.cell?_alloc_lt _ _ _ ly).trans y5)
              have lz : u1.heap.size < u7.heap.size := Nat.lt_of_lt_of_le (by first | omega | (simp; omega)) h2.size
              clear y0 y1 y2 y3 y4 y5 ly
              have y0 := z0
              have y1 := z1
              have y2 := z2
              have y3 := z3
              have y4 := z4
              have y5 := z5
              have ly := lz
              clear z0 z1 z2 z3 z4 z5 lz
              clear h1 h2
              go_wp2_with fail
              refine (GT.out _ M7.out.1).mono ?_
              rintro e u8 ⟨rfl, hb⟩
              have M8 : Hid (Own w u8 w.heap.size T) := M7.out.grow hb
              have z0 : u8.cell? ⟨u1.heap.size, 0, none⟩ = some (.int .i64 gf) := (hb.cell (p := ⟨u1.heap.size, 0, none⟩) (by first | omega | (simp; omega))).trans (by first | exact y0 | exact (World.cell?_alloc_lt _ _ _ ly).trans y0)
              have z1 : u8.cell? ⟨u1.heap.size, 1, none⟩ = some (.int .i64 gp) := (hb.cell (p := ⟨u1.heap.size, 1, none⟩) (by first | omega | (simp; omega))).trans (by first | exact y1 | exact (World.cell?_alloc_lt _ _ _ ly).trans y1)
              have z2 : u8.cell? ⟨u1.heap.size, 2, none⟩ = some (.int .i64 gd) := (hb.cell (p := ⟨u1.heap.size, 2, none⟩) (by first | omega | (simp; omega))).trans (by first | exact y2 | exact (World.cell?_alloc_lt _ _ _ ly).trans y2)
              have z3 : u8.cell? ⟨u1.heap.size, 3, none⟩ = some (.bool gw) := (hb.cell (p := ⟨u1.heap.size, 3, none⟩) (by first | omega | (simp; omega))).trans (by first | exact y3 | exact (World.cell?_alloc_lt _ _ _ ly).trans y3)
              have z4 : u8.cell? ⟨u1.heap.size, 4, none⟩ = some (.bool gtk) := (hb.cell (p := ⟨u1.heap.size, 4, none⟩) (by first | omega | (simp; omega))).trans (by first | exact y4 | exact (World.cell?_alloc_lt _ _ _ ly).trans y4)
              have z5 : u8.cell? ⟨u1.heap.size, 5, none⟩ = some (.int .i64 ga) := (hb.cell (p := ⟨u1.heap.size, 5, none⟩) (by first | omega | (simp; omega))).trans (by first | exact y5 | exact (World.cell?_alloc_lt _ _ _ ly).trans y5)
              have lz : u1.heap.size < u8.heap.size := Nat.lt_of_lt_of_le (by first | omega | (simp; omega)) hb.size
              clear y0 y1 y2 y3 y4 y5 ly
              have y0 := z0
              have y1 := z1
              have y2 := z2
              have y3 := z3
              have y4 := z4
              have y5 := z5
              have ly := lz
              clear z0 z1 z2 z3 z4 z5 lz
              clear hb
              have M9 : Hid (Own w (u8.alloc (.cells #[.int .i64 gf, .int .i64 gp, .int .i64 gd, .bool gw, .bool gtk, .int .i64 ga] 24)) w.heap.size T) := M8.out.grow (Go.Joins.below_alloc1 _ _)
              go_wp2_with fail
              refine (AW.out _).mono ?_
              rintro e u9 ⟨rfl, hb⟩
              have MA : Hid (Own w u9 w.heap.size T) := M9.out.grow hb
              have z0 : u9.cell? ⟨u1.heap.size, 0, none⟩ = some (.int .i64 gf) := (hb.cell (p := ⟨u1.heap.size, 0, none⟩) (by first | omega | (simp; omega))).trans (by first | exact y0 | exact (World.cell?_alloc_lt _ _ _ ly).trans y0)
              have x0 : u9.cell? ⟨u8.heap.size, 0, none⟩ = some (.int .i64 gf) := (hb.cell (p := ⟨u8.heap.size, 0, none⟩) (by simp)).trans (by simp)
              have z1 : u9.cell? ⟨u1.heap.size, 1, none⟩ = some (.int .i64 gp) := (hb.cell (p := ⟨u1.heap.size, 1, none⟩) (by first | omega | (simp; omega))).trans (by first | exact y1 | exact (World.cell?_alloc_lt _ _ _ ly).trans y1)
              have x1 : u9.cell? ⟨u8.heap.size, 1, none⟩ = some (.int .i64 gp) := (hb.cell (p := ⟨u8.heap.size, 1, none⟩) (by simp)).trans (by simp)
              have z2 : u9.cell? ⟨u1.heap.size, 2, none⟩ = some (.int .i64 gd) := (hb.cell (p := ⟨u1.heap.size, 2, none⟩) (by first | omega | (simp; omega))).trans (by first | exact y2 | exact (World.cell?_alloc_lt _ _ _ ly).trans y2)
              have x2 : u9.cell? ⟨u8.heap.size, 2, none⟩ = some (.int .i64 gd) := (hb.cell (p := ⟨u8.heap.size, 2, none⟩) (by simp)).trans (by simp)
              have z3 : u9.cell? ⟨u1.heap.size, 3, none⟩ = some (.bool gw) := (hb.cell (p := ⟨u1.heap.size, 3, none⟩) (by first | omega | (simp; omega))).trans (by first | exact y3 | exact (World.cell?_alloc_lt _ _ _ ly).trans y3)
              have x3 : u9.cell? ⟨u8.heap.size, 3, none⟩ = some (.bool gw) := (hb.cell (p := ⟨u8.heap.size, 3, none⟩) (by simp)).trans (by simp)
              have z4 : u9.cell? ⟨u1.heap.size, 4, none⟩ = some (.bool gtk) := (hb.cell (p := ⟨u1.heap.size, 4, none⟩) (by first | omega | (simp; omega))).trans (by first | exact y4 | exact (World.cell?_alloc_lt _ _ _ ly).trans y4)
              have x4 : u9.cell? ⟨u8.heap.size, 4, none⟩ = some (.bool gtk) := (hb.cell (p := ⟨u8.heap.size, 4, none⟩) (by simp)).trans (by simp)
              have z5 : u9.cell? ⟨u1.heap.size, 5, none⟩ = some (.int .i64 ga) := (hb.cell (p := ⟨u1.heap.size, 5, none⟩) (by first | omega | (simp; omega))).trans (by first | exact y5 | exact (World.cell?_alloc_lt _ _ _ ly).trans y5)
              have x5 : u9.cell? ⟨u8.heap.size, 5, none⟩ = some (.int .i64 ga) := (hb.cell (p := ⟨u8.heap.size, 5, none⟩) (by simp)).trans (by simp)
              clear hb y0 y1 y2 y3 y4 y5
              go_wp2_with fail
              go_ret
              exact ⟨rfl, MA.out.2.1⟩
          · have e1 : (gf == a2) = false := by simp [c1]
            have e2 : (gf != a2) = true := by simp [c1]
            have RV : Hid _ := rv (Or.inr c1)
            by_cases c2 : gd = a2
            · have e3 : (gd == a2) = true := by simp [c2]
              have e4 : (gd != a2) = false := by simp [c2]
              clear c2 rv lv ac
              go_wp2_with fail
              refine (GT.out _ hM1.out.1).mono ?_
              rintro e u1 ⟨rfl, hb1⟩
              have M1 : Hid (Own w u1 w.heap.size T) := hM1.out.grow hb1
              have l1 : w.heap.size < u1.heap.size := M1.out.1.2.2
              have M2 : Hid (Own w (u1.alloc (.cells #[.int .i64 gf, .int .i64 gp, .int .i64 gd, .bool gw, .bool gtk, .int .i64 ga] 24)) w.heap.size T) := M1.out.grow (Go.Joins.below_alloc1 _ _)
              clear hb1 hM1
              go_wp2_with fail
              refine (RV.out _ M2.out.1).mono ?_
              rintro e u3 ⟨rfl, h1, h2⟩
              have M3 : Hid (Own w u3 w.heap.size T) := M2.out.next h1 h2
              have z0 : u3.cell? ⟨u1.heap.size, 0, none⟩ = some (.int .i64 gf) := cell_grown h2 (by simp) (by omega) (by simp)
              have z1 : u3.cell? ⟨u1.heap.size, 1, none⟩ = some (.int .i64 gp) := cell_grown h2 (by simp) (by omega) (by simp)
              have z2 : u3.cell? ⟨u1.heap.size, 2, none⟩ = some (.int .i64 gd) := cell_grown h2 (by simp) (by omega) (by simp)
              have z3 : u3.cell? ⟨u1.heap.size, 3, none⟩ = some (.bool gw) := cell_grown h2 (by simp) (by omega) (by simp)
              have z4 : u3.cell? ⟨u1.heap.size, 4, none⟩ = some (.bool gtk) := cell_grown h2 (by simp) (by omega) (by simp)
              have z5 : u3.cell? ⟨u1.heap.size, 5, none⟩ = some (.int .i64 ga) := cell_grown h2 (by simp) (by omega) (by simp)
              have lz : u1.heap.size < u3.heap.size := Nat.lt_of_lt_of_le (by simp) h2.size
              have y0 := z0
              have y1 := z1
              have y2 := z2
              have y3 := z3
              have y4 := z4
              have y5 := z5
              have ly := lz
              clear z0 z1 z2 z3 z4 z5 lz
              clear h1 h2
              have M4 : Hid (Own w (u3.alloc (.cells #[.int .i64 0, .int .i64 0, .int .i64 0, .bool false, .bool false, .int .i64 0] 24)) w.heap.size T) := M3.out.grow (Go.Joins.below_alloc1 _ _)
              go_wp2_with fail
              refine (GT.out _ M4.out.1).mono ?_
              rintro e u8 ⟨rfl, hb⟩
              have M8 : Hid (Own w u8 w.heap.size T) := M4.out.grow hb
              have z0 : u8.cell? ⟨u1.heap.size, 0, none⟩ = some (.int .i64 gf) := (hb.cell (p := ⟨u1.heap.size, 0, none⟩) (by first | omega | (simp; omega))).trans (by first | exact y0 | exact (World.cell?_alloc_lt _ _ _ ly).trans y0)
              have z1 : u8.cell? ⟨u1.heap.size, 1, none⟩ = some (.int .i64 gp) := (hb.cell (p := ⟨u1.heap.size, 1, none⟩) (by first | omega | (simp; omega))).trans (by first | exact y1 | exact (World.cell?_alloc_lt _ _ _ ly).trans y1)
              have z2 : u8.cell? ⟨u1.heap.size, 2, none⟩ = some (.int .i64 gd) := (hb.cell (p := ⟨u1.heap.size, 2, none⟩) (by first | omega | (simp; omega))).trans (by first | exact y2 | exact (World.cell?_alloc_lt _ _ _ ly).trans y2)
              have z3 : u8.cell? ⟨u1.heap.size, 3, none⟩ = some (.bool gw) := (hb.cell (p := ⟨u1.heap.size, 3, none⟩) (by first | omega | (simp; omega))).trans (by first | exact y3 | exact (World.cell?_alloc_lt _ _ _ ly).trans y3)
              have z4 : u8.cell? ⟨u1.heap.size, 4, none⟩ = some (.bool gtk) := (hb.cell (p := ⟨u1.heap.size, 4, none⟩) (by first | omega | (simp; omega))).trans (by first | exact y4 | exact (World.cell?_alloc_lt _ _ _ ly).trans y4)
              have z5 : u8.cell? ⟨u1.heap.size, 5, none⟩ = some (.int .i64 ga) := (hb.cell (p := ⟨u1.heap.size, 5, none⟩) (by first | omega | (simp; omega))).trans (by first | exact y5 | exact (World.cell?_alloc_lt _ _ _ ly).trans y5)
              have lz : u1.heap.size < u8.heap.size := Nat.lt_of_lt_of_le (by first | omega | (simp; omega)) hb.size
              clear y0 y1 y2 y3 y4 y5 ly
              have y0 := z0
              have y1 := z1
              have y2 := z2
              have y3 := z3
              have y4 := z4
              have y5 := z5
              have ly := lz
              clear z0 z1 z2 z3 z4 z5 lz
              clear hb
              have M9 : Hid (Own w (u8.alloc (.cells #[.int .i64 gf, .int .i64 gp, .int .i64 gd, .bool gw, .bool gtk, .int .i64 ga] 24)) w.heap.size T) := M8.out.grow (Go.Joins.below_alloc1 _ _)
              go_wp2_with fail
              refine (AW.out _).mono ?_
              rintro e u9 ⟨rfl, hb⟩
              have MA : Hid (Own w u9 w.heap.size T) := M9.out.grow hb
              have z0 : u9.cell? ⟨u1.heap.size, 0, none⟩ = some (.int .i64 gf) := (hb.cell (p := ⟨u1.heap.size, 0, none⟩) (by first | omega | (simp; omega))).trans (by first | exact y0 | exact (World.cell?_alloc_lt _ _ _ ly).trans y0)
              have x0 : u9.cell? ⟨u8.heap.size, 0, none⟩ = some (.int .i64 gf) := (hb.cell (p := ⟨u8.heap.size, 0, none⟩) (by simp)).trans (by simp)
              have z1 : u9.cell? ⟨u1.heap.size, 1, none⟩ = some (.int .i64 gp) := (hb.cell (p := ⟨u1.heap.size, 1, none⟩) (by first | omega | (simp; omega))).trans (by first | exact y1 | exact (World.cell?_alloc_lt _ _ _ ly).trans y1)
              have x1 : u9.cell? ⟨u8.heap.size, 1, none⟩ = some (.int .i64 gp) := (hb.cell (p := ⟨u8.heap.size, 1, none⟩) (by simp)).trans (by simp)
              have z2 : u9.cell? ⟨u1.heap.size, 2, none⟩ = some (.int .i64 gd) := (hb.cell (p := ⟨u1.heap.size, 2, none⟩) (by first | omega | (simp; omega))).trans (by first | exact y2 | exact (World.cell?_alloc_lt _ _ _ ly).trans y2)
              have x2 : u9.cell? ⟨u8.heap.size, 2, none⟩ = some (.int .i64 gd) := (hb.cell (p := ⟨u8.heap.size, 2, none⟩) (by simp)).trans (by simp)
              have z3 : u9.cell? ⟨u1.heap.size, 3, none⟩ = some (.bool gw) := (hb.cell (p := ⟨u1.heap.size, 3, none⟩) (by first | omega | (simp; omega))).trans (by first | exact y3 | exact (World.cell?_alloc_lt _ _ _ ly).trans y3)
              have x3 : u9.cell? ⟨u8.heap.size, 3, none⟩ = some (.bool gw) := (hb.cell (p := ⟨u8.heap.size, 3, none⟩) (by simp)).trans (by simp)
              have z4 : u9.cell? ⟨u1.heap.size, 4, none⟩ = some (.bool gtk) := (hb.cell (p := ⟨u1.heap.size, 4, none⟩) (by first | omega | (simp; omega))).trans (by first | exact y4 | exact (World.cell?_alloc_lt _ _ _ ly).trans y4)
              have x4 : u9.cell? ⟨u8.heap.size, 4, none⟩ = some (.bool gtk) := (hb.cell (p := ⟨u8.heap.size, 4, none⟩) (by simp)).trans (by simp)
              have z5 : u9.cell? ⟨u1.heap.size, 5, none⟩ = some (.int .i64 ga) := (hb.cell (p := ⟨u1.heap.size, 5, none⟩) (by first | omega | (simp; omega))).trans (by first | exact y5 | exact (World.cell?_alloc_lt _ _ _ ly).trans y5)
              have x5 : u9.cell? ⟨u8.heap.size, 5, none⟩ = some (.int .i64 ga) := (hb.cell (p := ⟨u8.heap.size, 5, none⟩) (by simp)).trans (by simp)
              clear hb y0 y1 y2 y3 y4 y5
              go_wp2_with fail
              go_ret
              exact ⟨rfl, MA.out.2.1⟩
            · have e3 : (gd == a2) = false := by simp [c2]
              have e4 : (gd != a2) = true := by simp [c2]
              have LV : Hid _ := lv (Or.inr c2)
              have AC : Hid _ := ac (Or.inr c2)
              clear rv lv ac
              go_wp2_with fail
              refine (GT.out _ hM1.out.1).mono ?_
              rintro e u1 ⟨rfl, hb1⟩
              have M1 : Hid (Own w u1 w.heap.size T) := hM1.out.grow hb1
              have l1 : w.heap.size < u1.heap.size := M1.out.1.2.2
              have M2 : Hid (Own w (u1.alloc (.cells #[.int .i64 gf, .int .i64 gp, .int .i64 gd, .bool gw, .bool gtk, .int .i64 ga] 24)) w.heap.size T) := M1.out.grow (Go.Joins.below_alloc1 _ _)
              clear hb1 hM1
              go_wp2_with fail
              refine (RV.out _ M2.out.1).mono ?_
              rintro e u3 ⟨rfl, h1, h2⟩
              have M3 : Hid (Own w u3 w.heap.size T) := M2.out.next h1 h2
              have z0 : u3.cell? ⟨u1.heap.size, 0, none⟩ = some (.int .i64 gf) := cell_grown h2 (by simp) (by omega) (by simp)
              have z1 : u3.cell? ⟨u1.heap.size, 1, none⟩ = some (.int .i64 gp) := cell_grown h2 (by simp) (by omega) (by simp)
              have z2 : u3.cell? ⟨u1.heap.size, 2, none⟩ = some (.int .i64 gd) := cell_grown h2 (by simp) (by omega) (by simp)
              have z3 : u3.cell? ⟨u1.heap.size, 3, none⟩ = some (.bool gw) := cell_grown h2 (by simp) (by omega) (by simp)
              have z4 : u3.cell? ⟨u1.heap.size, 4, none⟩ = some (.bool gtk) := cell_grown h2 (by simp) (by omega) (by simp)
              have z5 : u3.cell? ⟨u1.heap.size, 5, none⟩ = some (.int .i64 ga) := cell_grown h2 (by simp) (by omega) (by simp)
              have lz : u1.heap.size < u3.heap.size := Nat.lt_of_lt_of_le (by simp) h2.size
              have y0 := z0
              have y1 := z1
              have y2 := z2
              have y3 := z3
              have y4 := z4
              have y5 := z5
              have ly := lz
              clear z0 z1 z2 z3 z4 z5 lz
              clear h1 h2
              have M4 : Hid (Own w (u3.alloc (.cells #[.int .i64 0, .int .i64 0, .int .i64 0, .bool false, .bool false, .int .i64 0] 24)) w.heap.size T) := M3.out.grow (Go.Joins.below_alloc1 _ _)
              go_wp2_with fail
              refine (LV.out _ M4.out.1).mono ?_
              rintro e u5 ⟨rfl, h1, h2⟩
              have M5 : Hid (Own w u5 w.heap.size T) := M4.out.next h1 h2
              have z0 : u5.cell? ⟨u1.heap.size, 0, none⟩ = some (.int .i64 gf) := cell_grown h2 (by first | omega | (simp; omega)) (by omega) (by first | exact y0 | exact (World.cell?_alloc_lt _ _ _ ly).trans y0)
              have z1 : u5.cell? ⟨u1.heap.size, 1, none⟩ = some (.int .i64 gp) := cell_grown h2 (by first | omega | (simp; omega)) (by omega) (by first | exact y1 | exact (World.cell?_alloc_lt _ _ _ ly).trans y1)
              have z2 : u5.cell? ⟨u1.heap.size, 2, none⟩ = some (.int .i64 gd) := cell_grown h2 (by first | omega | (simp; omega)) (by omega) (by first | exact y2 | exact (World.cell?_alloc_lt _ _ _ ly).trans y2)
              have z3 : u5.cell? ⟨u1.heap.size, 3, none⟩ = some (.bool gw) := cell_grown h2 (by first | omega | (simp; omega)) (by omega) (by first | exact y3 | exact (World.cell?_alloc_lt _ _ _ ly).trans y3)
              have z4 : u5.cell? ⟨u1.heap.size, 4, none⟩ = some (.bool gtk) := cell_grown h2 (by first | omega | (simp; omega)) (by omega) (by first | exact y4 | exact (World.cell?_alloc_lt _ _ _ ly).trans y4)
              have z5 : u5.cell? ⟨u1.heap.size, 5, none⟩ = some (.int .i64 ga) := cell_grown h2 (by first | omega | (simp; omega)) (by omega) (by first | exact y5 | exact (World.cell?_alloc_lt _ _ _ ly).trans y5)
              have lz : u1.heap.size < u5.heap.size := Nat.lt_of_lt_of_le (by first | omega | (simp; omega)) h2.size
              clear y0 y1 y2 y3 y4 y5 ly
              have y0 := z0
              have y1 := z1
              have y2 := z2
              have y3 := z3
              have y4 := z4
              have y5 := z5
              have ly := lz
              clear z0 z1 z2 z3 z4 z5 lz
              clear h1 h2
              have M6 : Hid (Own w (u5.alloc (.cells #[.int .i64 0, .int .i64 0, .int .i64 0, .bool false, .bool false, .int .i64 0] 24)) w.heap.size T) := M5.out.grow (Go.Joins.below_alloc1 _ _)
              go_wp2_with fail
              refine (AC.out _ M6.out.1).mono ?_
              rintro e u7 ⟨rfl, h1, h2⟩
              have M7 : Hid (Own w u7 w.heap.size T) := M6.out.next h1 h2
              have z0 : u7.cell? ⟨u1.heap.size, 0, none⟩ = some (.int .i64 gf) := cell_grown h2 (by first | omega | (simp; omega)) (by omega) (by first | exact y0 | exact (World.cell?_alloc_lt _ _ _ ly).trans y0)
              have z1 : u7.cell? ⟨u1.heap.size, 1, none⟩ = some (.int .i64 gp) := cell_grown h2 (by first | omega | (simp; omega)) (by omega) (by first | exact y1 | exact (World.cell?_alloc_lt _ _ _ ly).trans y1)
              have z2 : u7.cell? ⟨u1.heap.size, 2, none⟩ = some (.int .i64 gd) := cell_grown h2 (by first | omega | (simp; omega)) (by omega) (by first | exact y2 | exact (World.cell?_alloc_lt _ _ _ ly).trans y2)
              have z3 : u7.cell? ⟨u1.heap.size, 3, none⟩ = some (.bool gw) := cell_grown h2 (by first | omega | (simp; omega)) (by omega) (by first | exact y3 | exact (World.cell?_alloc_lt _ _ _ ly).trans y3)
              have z4 : u7.cell? ⟨u1.heap.size, 4, none⟩ = some (.bool gtk) := cell_grown h2 (by first | omega | (simp; omega)) (by omega) (by first | exact y4 | exact (World.cell?_alloc_lt _ _ _ ly).trans y4)
              have z5 : u7.cell? ⟨u1.heap.size, 5, none⟩ = some (.int .i64 ga) := cell_grown h2 (by first | omega | (simp; omega)) (by omega) (by first | exact y5 | exact (World.cell?_alloc_lt _ _ _ ly).trans y5)
              have lz : u1.heap.size < u7.heap.size := Nat.lt_of_lt_of_le (by first | omega | (simp; omega)) h2.size
              clear y0 y1 y2 y3 y4 y5 ly
              have y0 := z0
              have y1 := z1
              have y2 := z2
              have y3 := z3
              have y4 := z4
              have y5 := z5
              have ly := lz
              clear z0 z1 z2 z3 z4 z5 lz
              clear h1 h2
              go_wp2_with fail
              refine (GT.out _ M7.out.1).mono ?_
              rintro e u8 ⟨rfl, hb⟩
              have M8 : Hid (Own w u8 w.heap.size T) := M7.out.grow hb
              have z0 : u8.cell? ⟨u1.heap.size, 0, none⟩ = some (.int .i64 gf) := (hb.cell (p := ⟨u1.heap.size, 0, none⟩) (by first | omega | (simp; omega))).trans (by first | exact y0 | exact (World.cell?_alloc_lt _ _ _ ly).trans y0)
              have z1 : u8.cell? ⟨u1.heap.size, 1, none⟩ = some (.int .i64 gp) := (hb.cell (p := ⟨u1.heap.size, 1, none⟩) (by first | omega | (simp; omega))).trans (by first | exact y1 | exact (World.cell?_alloc_lt _ _ _ ly).trans y1)
              have z2 : u8.cell? ⟨u1.heap.size, 2, none⟩ = some (.int .i64 gd) := (hb.cell (p := ⟨u1.heap.size, 2, none⟩) (by first | omega | (simp; omega))).trans (by first | exact y2 | exact (World.cell?_alloc_lt _ _ _ ly).trans y2)
              have z3 : u8.cell? ⟨u1.heap.size, 3, none⟩ = some (.bool gw) := (hb.cell (p := ⟨u1.heap.size, 3, none⟩) (by first | omega | (simp; omega))).trans (by first | exact y3 | exact (World.cell?_alloc_lt _ _ _ ly).trans y3)
              have z4 : u8.cell? ⟨u1.heap.size, 4, none⟩ = some (.bool gtk) := (hb.cell (p := ⟨u1.heap.size, 4, none⟩) (by first | omega | (simp; omega))).trans (by first | exact y4 | exact (World.cell?_alloc_lt _ _ _ ly).trans y4)
              have z5 : u8.cell? ⟨u1.heap.size, 5, none⟩ = some (.int .i64 ga) := (hb.cell (p := ⟨u1.heap.size, 5, none⟩) (by first | omega | (simp; omega))).trans (by first | exact y5 | exact (World.cell?_alloc_lt _ _ _ ly).trans y5)
              have lz : u1.heap.size < u8.heap.size := Nat.lt_of_lt_of_le (by first | omega | (simp; omega)) hb.size
              clear y0 y1 y2 y3 y4 y5 ly
              have y0 := z0
              have y1 := z1
              have y2 := z2
              have y3 := z3
              have y4 := z4
              have y5 := z5
              have ly := lz
              clear z0 z1 z2 z3 z4 z5 lz
              clear hb
              have M9 : Hid (Own w (u8.alloc (.cells #[.int .i64 gf, .int .i64 gp, .int .i64 gd, .bool gw, .bool gtk, .int .i64 ga] 24)) w.heap.size T) := M8.out.grow (Go.Joins.below_alloc1 _ _)
              go_wp2_with fail
              refine (AW.out _).mono ?_
              rintro e u9 ⟨rfl, hb⟩
              have MA : Hid (Own w u9 w.heap.size T) := M9.out.grow hb
              have z0 : u9.cell? ⟨u1.heap.size, 0, none⟩ = some (.int .i64 gf) := (hb.cell (p := ⟨u1.heap.size, 0, none⟩) (by first | omega | (simp; omega))).trans (by first | exact y0 | exact (World.cell?_alloc_lt _ _ _ ly).trans y0)
              have x0 : u9.cell? ⟨u8.heap.size, 0, none⟩ = some (.int .i64 gf) := (hb.cell (p := ⟨u8.heap.size, 0, none⟩) (by simp)).trans (by simp)
              have z1 : u9.cell? ⟨u1.heap.size, 1, none⟩ = some (.int .i64 gp) := (hb.cell (p := ⟨u1.heap.size, 1, none⟩) (by first | omega | (simp; omega))).trans (by first | exact y1 | exact (World.cell?_alloc_lt _ _ _ ly).trans y1)
              have x1 : u9.cell? ⟨u8.heap.size, 1, none⟩ = some (.int .i64 gp) := (hb.cell (p := ⟨u8.heap.size, 1, none⟩) (by simp)).trans (by simp)
              have z2 : u9.cell? ⟨u1.heap.size, 2, none⟩ = some (.int .i64 gd) := (hb.cell (p := ⟨u1.heap.size, 2, none⟩) (by first | omega | (simp; omega))).trans (by first | exact y2 | exact (World.cell?_alloc_lt _ _ _ ly).trans y2)
              have x2 : u9.cell? ⟨u8.heap.size, 2, none⟩ = some (.int .i64 gd) := (hb.cell (p := ⟨u8.heap.size, 2, none⟩) (by simp)).trans (by simp)
              have z3 : u9.cell? ⟨u1.heap.size, 3, none⟩ = some (.bool gw) := (hb.cell (p := ⟨u1.heap.size, 3, none⟩) (by first | omega | (simp; omega))).trans (by first | exact y3 | exact (World.cell?_alloc_lt _ _ _ ly).trans y3)
              have x3 : u9.cell? ⟨u8.heap.size, 3, none⟩ = some (.bool gw) := (hb.cell (p := ⟨u8.heap.size, 3, none⟩) (by simp)).trans (by simp)
              have z4 : u9.cell? ⟨u1.heap.size, 4, none⟩ = some (.bool gtk) := (hb.cell (p := ⟨u1.heap.size, 4, none⟩) (by first | omega | (simp; omega))).trans (by first | exact y4 | exact (World.cell?_alloc_lt _ _ _ ly).trans y4)
              have x4 : u9.cell? ⟨u8.heap.size, 4, none⟩ = some (.bool gtk) := (hb.cell (p := ⟨u8.heap.size, 4, none⟩) (by simp)).trans (by simp)
              have z5 : u9.cell? ⟨u1.heap.size, 5, none⟩ = some (.int .i64 ga) := (hb.cell (p := ⟨u1.heap.size, 5, none⟩) (by first | omega | (simp; omega))).trans (by first | exact y5 | exact (World.cell?_alloc_lt _ _ _ ly).trans y5)
              have x5 : u9.cell? ⟨u8.heap.size, 5, none⟩ = some (.int .i64 ga) := (hb.cell (p := ⟨u8.heap.size, 5, none⟩) (by simp)).trans (by simp)
              clear hb y0 y1 y2 y3 y4 y5
              go_wp2_with fail
              go_ret
              exact ⟨rfl, MA.out.2.1⟩

theorem own : ownKnob Try.prog.godebug = none := by kernel_rfl
theorem laidOut : laidOutB Try.prog = true := by kernel_rfl
set_option maxRecDepth 100000 in
theorem lifted (os : Os) (started : os.Started) (H : Type) (enc : TypeId × Value → H) :
    ReturnsInHanded {} Try.checked os 7 .any (Rows.shareOwnersSpec.pre6 enc Try.prog Try.f7 Rows.shareOwnersRow.domain false) (Rows.shareOwnersSpec.post enc Try.prog Try.f7 false true false false) := by
  refine returnsInHanded_of_change (C := Try.checked) own started (by kernel_rfl) Try.func7
    (ChangeSpec.witness6 (enc := enc) (C := Try.checked) false ⟨#[], #[.slice none 0 0, .int .i64 0, .int .i64 0, .int .i64 0], []⟩ 8 (by kernel_rfl) (by kernel_rfl) (by kernel_rfl) (by kernel_rfl)) ?_
  intro W base args ds gs before hval0 hW hcnd _
  have hval : ∀ (j : Nat) t v, Try.f7.params[j]? = some t → args[j]? = some v → Value.okWide Try.prog W .any base t v := hval0
  have hW' := hW
  obtain ⟨p, q, hA0, hV, hbef, hfz, hnd⟩ := hW
  have hA : DataW.TrodAll enc Try.prog W 0 (fun _ => true) true Try.f7.params.toList args.toList ds p := hA0
  have hAk := hA
  have hlt : ∀ x ∈ p, x.block < W.heap.size := fun x hx => hW'.lt x (by rw [hbef]; exact List.mem_append_left _ hx)
  rw [Try.params7] at hA hval
  obtain ⟨v0, vs0, d0, ds0, p0, q0, hargs, rfl, hp0, h0, r0⟩ := trodAll_cons hA
  obtain ⟨v1, vs1, d1, ds1, p1, q1, rfl, rfl, hp1, h1, r1⟩ := trodAll_cons r0
  obtain ⟨v2, vs2, d2, ds2, p2, q2, rfl, rfl, hp2, h2, r2⟩ := trodAll_cons r1
  obtain ⟨v3, vs3, d3, ds3, p3, q3, rfl, rfl, hp3, h3, r3⟩ := trodAll_cons r2
  obtain ⟨rfl, rfl, hpz⟩ := trodAll_nil r3
  obtain rfl : args = #[v0, v1, v2, v3] := by cases args; simp_all
  obtain ⟨rfl, rfl⟩ := trodVars_none hV
  obtain ⟨p0, n0, c0, A0, rfl, m0, H0⟩ := open_acts (hval 0 22 v0 rfl rfl) h0
  obtain ⟨a1, rfl, _, _, w1⟩ := open_int Try.underlying3 (hval 1 3 v1 rfl rfl) h1
  obtain ⟨a2, rfl, _, _, w2⟩ := open_int Try.underlying3 (hval 2 3 v2 rfl rfl) h2
  obtain ⟨a3, rfl, _, _, w3⟩ := open_int Try.underlying3 (hval 3 3 v3 rfl rfl) h3
  clear hA0 hval0
  refine (walk p0 n0 c0 A0 m0 a1 w1 a2 w2 a3 w3 W H0).mono fun e W' ⟨he, hg⟩ => ?_
  subst he
  exact ⟨_, rfl, ⟨_, _, _, [], p, [], hW', (trodAll_cons_mk (shut_bool Try.underlying4 _) trodAll_mk0), args_stay laidOut hg (by kernel_rfl) hAk hlt, rfl, hg.frame _, fun h => by cases h⟩⟩

theorem over : Rows.shareOwnersRow.holds Try.pinned (OpenSpec.ofChange Rows.shareOwnersSpec) :=
  OpenClaim.holds_of_wide 7 Try.f7 rfl rfl rfl rfl rfl rfl rfl ⟨rfl, rfl, rfl, rfl, rfl⟩ rfl rfl rfl rfl rfl (by kernel_rfl) Try.func7 (by kernel_rfl)
    (of_decide_eq_true (by kernel_rfl)) (by unfold Func.isWrapper; first | (rw [if_pos (by decide +kernel)]; kernel_rfl) | (rw [if_neg (by decide +kernel)]; exact ⟨rfl, rfl⟩))
    (fun os started H enc _ => lifted os started H enc)

theorem proved : Rows.ShareOwnersSaid :=
  over
#print axioms proved
end Go.Proofs.Ytenfdcjnfgjilaa.shareOwners
