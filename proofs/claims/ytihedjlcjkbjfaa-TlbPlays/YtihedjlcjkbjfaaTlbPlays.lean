/- For any calls, any tag and page: behind each of any 60 calls just the lines are kept that the document says, each is told so, and what is found is what the document finds; no condition. -/
import Derived.Test.YtihedjlcjkbjfaaRows
import Derived.ProofKit
import Derived.OpenShut
import Derived.Carry
import Derived.Test.YtihedjlcjkbjfaaV2
import Derived.Sort.BigQuietIn
namespace Go.Proofs.Ytihedjlcjkbjfaa.tlbPlays
open Go.ChangeShapes Go.WideShapes Go.ChangeAt Go.RowKit Go.Maps
set_option linter.unusedSimpArgs false
set_option linter.unusedVariables false
theorem find_agree {T : Nat → Ln} (g : GoodL T) (tag page : Int) : (∃ (l : Ln) (y : Int), findT T tag page = (l, true) ∧ findL (rowT T 16) tag page = (toldR l y, true)) ∨ (findT T tag page = (Ln.zero, false) ∧ findL (rowT T 16) tag page = (Rl.zero, false)) := by
  rcases find_cases g tag page with ⟨i, a, b, c⟩ | ⟨a, c⟩
  · exact Or.inl ⟨T i, _, c, findL_yes tag page i b 16 a (fun j hj hne => by
      cases q : (T j).fits tag page with
      | false => rfl
      | true => exact absurd (fits_one g tag page j i hj a q b) hne)⟩
  · exact Or.inr ⟨c, findL_no T tag page 16 a⟩
theorem own_drewN {w W : World} {b n : Nat} {T : Nat → Ln} (h : Own w W b T) : Own w (W.drewN n) b T := ⟨h.1, ⟨h.2.1.os, h.2.1.tape, h.2.1.output, h.2.1.size, h.2.1.block⟩, h.2.2⟩

set_option maxRecDepth 8000 in
set_option maxHeartbeats 32000000 in
theorem walk (p0 : Option Addr) (n0 c0 : Nat) (K0 A0 C0 : Nat → Int) (L0 : Nat → Ln) (m0 : n0 ≤ maxLen) (a1 : Int) (w1 : (Lit.int .i64 a1).wf = true) (a2 : Int) (w2 : (Lit.int .i64 a2).wf = true) (w : World) (H0 : IsActs w p0 n0 K0 A0 C0 L0) :
    Calls Try.prog 4 #[.slice p0 n0 c0, .int .i64 a1, .int .i64 a2] w fun e w' => e = .returned (.bool true) ∧ Below w.heap.size w w' := by
  have AW : Hid (∀ W : World, Calls Try.prog 21 #[] W fun e w' => e = .returned (.bool true) ∧ Below W.heap.size W w') := fun W => awake_any W
  obtain ⟨Zs, hz, hs, hzz⟩ := zero30
  have M0 : Hid (Own w (w.alloc (.cells Zs 58)) w.heap.size T0) := ⟨IsTlb.made w Zs hs hzz, Go.Joins.below_alloc1 _ _, Nat.le_refl _⟩
  have DO : Hid (∀ (T : Nat → Ln), GoodL T → ∀ (q0 : Option Addr) (d0 : Nat) (k a c : Int) (v : Bool) (t p f : Int) (lw lu lx g d : Bool) (W : World), IsTlb W w.heap.size T → IsRl W (w.heap.size + 1) q0 (rowT T 16) → Calls Try.prog 22 #[.pointer (some ⟨w.heap.size, 0, none⟩), .slice q0 (rowT T 16).length d0, .agg #[.int .i64 k, .int .i64 a, .int .i64 c, .bool v, .int .i64 t, .int .i64 p, .int .i64 f, .bool lw, .bool lu, .bool lx, .bool g, .bool d]] W fun e w' => (∃ p' c', e = .returned (.tuple #[.slice p' (rowT (doesL T k a c ⟨v, t, p, f, lw, lu, lx, g, d⟩) 16).length c', .bool true]) ∧ IsRl w' (w.heap.size + 1) p' (rowT (doesL T k a c ⟨v, t, p, f, lw, lu, lx, g, d⟩) 16)) ∧ IsTlb w' w.heap.size (doesL T k a c ⟨v, t, p, f, lw, lu, lx, g, d⟩) ∧ W.grownBy w' (some w.heap.size)) := fun T G q0 d0 k a c v t p f lw lu lx g d W h hI => rdoes_any w.heap.size T G (w.heap.size + 1) q0 d0 (by omega) k a c v t p f lw lu lx g d W h hI (by have := h.2.2; omega)
  have LC : Hid (∀ (T : Nat → Ln) (W : World), IsTlb W w.heap.size T → Calls Try.prog 23 #[.pointer (some ⟨w.heap.size, 0, none⟩)] W fun e w' => (∃ p c, e = .returned (.slice p (linesT T 16).length c) ∧ IsLines w' W.heap.size p (linesT T 16)) ∧ Below W.heap.size W w') := fun T W h => lines_call w.heap.size T W h
  have FC : Hid (∀ (T : Nat → Ln) (tag page : Int) (W : World), IsTlb W w.heap.size T → Calls Try.prog 25 #[.pointer (some ⟨w.heap.size, 0, none⟩), .int .i64 tag, .int .i64 page] W fun e w' => e = .returned (.tuple #[(findT T tag page).1.val, .bool (findT T tag page).2]) ∧ Below W.heap.size W w') := fun T tag page W h => find_any w.heap.size T tag page W h
  have RFC : Hid (∀ (T : Nat → Ln) (p : Option Addr) (c : Nat) (tag page : Int) (W : World), IsRl W (w.heap.size + 1) p (rowT T 16) → Calls Try.prog 26 #[.slice p (rowT T 16).length c, .int .i64 tag, .int .i64 page] W fun e w' => e = .returned (.tuple #[(findL (rowT T 16) tag page).1.val, .bool (findL (rowT T 16) tag page).2]) ∧ Below W.heap.size W w') := fun T p c tag page W h => rfind_any (w.heap.size + 1) p c (rowT T 16) (by rw [row_len]; have := lines_len T 16; omega) tag page W h
  have TC : Hid (∀ (v : Bool) (t p f : Int) (lw lu lx g d : Bool) (y : Int) (W : World), Calls Try.prog 24 #[.agg #[.bool v, .int .i64 t, .int .i64 p, .int .i64 f, .bool lw, .bool lu, .bool lx, .bool g, .bool d], .int .i64 y] W fun e w' => e = .returned (.agg #[.int .i64 y, .int .i64 t, .int .i64 p, .int .i64 f, .bool lw, .bool lu, .bool lx, .bool g, .bool d]) ∧ Below W.heap.size W w') := fun v t p f lw lu lx g d y W => told_any v t p f lw lu lx g d y W
  have HA : Hid (IsActs w p0 n0 K0 A0 C0 L0) := H0
  clear H0 hs hzz
  have mm : (n0 : Int) ≤ 9223372036854775807 := by have : maxLen ≤ 9223372036854775807 := by decide +kernel
                                                   omega
  go_enter Try.func4, Try.ntmps4
  go_wp2_with fail
  refine (AW.out _).mono ?_
  rintro e u0 ⟨rfl, hb⟩
  have M1 : Hid (Own w u0 w.heap.size T0) := (M0.out.grow (Go.Joins.below_alloc1 _ _)).grow hb
  clear hb M0
  go_wp2_with fail
  go_loopw [8, 9] (fun s x W => ∃ (k : Nat) (T : Nat → Ln) (q : Option Addr) (d : Nat), k ≤ n0 ∧ k ≤ 60 ∧ s = .slice q (rowT T 16).length d ∧ x = .int .i64 k ∧ Hid (Own w W w.heap.size T) ∧ Hid (GoodL T) ∧ Hid (IsRl W (w.heap.size + 1) q (rowT T 16))) (fun _ x _ => 60 - (intOf x).toNat)
  case atStart => exact ⟨0, T0, _, _, by omega, by omega, by rw [show (rowT T0 16).length = 0 from by rw [show rowT T0 16 = [] from row_zero 16]; rfl], rfl, M1, good_zero, fun i hi => absurd hi (by rw [show rowT T0 16 = [] from row_zero 16]; simp)⟩
  case round =>
    obtain ⟨k, T, q, dd, hk, hk6, rfl, rfl, hM, hG, hR⟩ := hrel
    by_cases hlt : k < n0 ∧ k < 60
    · have hd : decide ((k : Int) < (n0 : Int)) = true := by simp; omega
      have hd2 : decide ((k : Int) < 60) = true := by simp; omega
      obtain ⟨b, o, rfl, lb, rg⟩ := (HA.out.below hM.out.2.1) k hlt.1
      generalize K0 k = ak at rg
      generalize A0 k = aa at rg
      generalize C0 k = ac at rg
      generalize L0 k = ln at rg
      obtain ⟨lv, lt, lp, lf, lw, lu, lx, lg, ld⟩ := ln
      have z0 : wr.cell? ⟨b, o + k * 12, none⟩ = some (.int .i64 ak) := rg 0 _ rfl
      have z1 : wr.cell? ⟨b, o + k * 12 + 1, none⟩ = some (.int .i64 aa) := rg 1 _ rfl
      have z2 : wr.cell? ⟨b, o + k * 12 + 2, none⟩ = some (.int .i64 ac) := rg 2 _ rfl
      have z3 : wr.cell? ⟨b, o + k * 12 + 3, none⟩ = some (.bool lv) := rg 3 _ rfl
      have z4 : wr.cell? ⟨b, o + k * 12 + 4, none⟩ = some (.int .i64 lt) := rg 4 _ rfl
      have z5 : wr.cell? ⟨b, o + k * 12 + 5, none⟩ = some (.int .i64 lp) := rg 5 _ rfl
      have z6 : wr.cell? ⟨b, o + k * 12 + 6, none⟩ = some (.int .i64 lf) := rg 6 _ rfl
      have z7 : wr.cell? ⟨b, o + k * 12 + 7, none⟩ = some (.bool lw) := rg 7 _ rfl
      have z8 : wr.cell? ⟨b, o + k * 12 + 8, none⟩ = some (.bool lu) := rg 8 _ rfl
      have z9 : wr.cell? ⟨b, o + k * 12 + 9, none⟩ = some (.bool lx) := rg 9 _ rfl
      have z10 : wr.cell? ⟨b, o + k * 12 + 10, none⟩ = some (.bool lg) := rg 10 _ rfl
      have z11 : wr.cell? ⟨b, o + k * 12 + 11, none⟩ = some (.bool ld) := rg 11 _ rfl
      clear rg
      have DO2 := DO.out T hG.out q dd ak aa ac lv lt lp lf lw lu lx lg ld
      have G1 : Hid (GoodL (doesL T ak aa ac ⟨lv, lt, lp, lf, lw, lu, lx, lg, ld⟩)) := hG.out.does _ _ _ _
      generalize doesL T ak aa ac ⟨lv, lt, lp, lf, lw, lu, lx, lg, ld⟩ = T2 at DO2 G1
      obtain ⟨n1, hn1⟩ : ∃ n1, (rowT T 16).length = n1 := ⟨_, rfl⟩
      rw [hn1] at DO2 ⊢
      clear hn1
      have DO3 : Hid _ := DO2
      clear DO2
      have FA := find_agree G1.out a1 a2
      have RA : Hid (∀ m, m < (linesT T2 16).length → ((linesT T2 16).getD m Ln.zero).v = true ∧ toldR ((linesT T2 16).getD m Ln.zero) ((rowT T2 16).getD m Rl.zero).y = (rowT T2 16).getD m Rl.zero) := fun m hm => row_at T2 16 m hm
      have RLN : Hid ((rowT T2 16).length = (linesT T2 16).length) := row_len T2 16
      have LC2 := LC.out T2
      have FC2 := FC.out T2 a1 a2
      have RF2 := RFC.out T2
      have ll : (linesT T2 16).length ≤ 16 := lines_len T2 16
      go_wp2_with fail
      refine (DO3.out _ hM.out.1 hR.out).mono ?_
      rintro e u1 ⟨⟨p1, c1, rfl, hI1⟩, h1, h2⟩
      have M1 : Hid (Own w u1 w.heap.size T2) := hM.out.next h1 h2
      have R1 : Hid (IsRl u1 (w.heap.size + 1) p1 (rowT T2 16)) := hI1
      clear h1 h2 hI1 lb hM hR hG z0 z1 z2 z3 z4 z5 z6 z7 z8 z9 z10 z11
      obtain ⟨nl, hnl⟩ : ∃ nl, (linesT T2 16).length = nl := ⟨_, rfl⟩
      have RF3 := RF2 p1 c1 a1 a2
      have HNL : Hid ((linesT T2 16).length = nl) := hnl
      rw [RLN.out, hnl] at RF3
      rw [RLN.out, hnl]
      rw [hnl] at LC2 ll
      have LC3 : Hid _ := LC2
      have FA' : Hid _ := FA
      have FC3 : Hid _ := FC2
      have RF4 : Hid _ := RF3
      clear LC2 FC2 RF2 RF3 FA hnl
      go_wp2_with fail
      refine (LC3.out _ M1.out.1).mono ?_
      rintro e u2 ⟨⟨p2, c2, rfl, hr⟩, hb2⟩
      have M2 : Hid (Own w u2 w.heap.size T2) := M1.out.grow hb2
      have R2 : Hid (IsRl u2 (w.heap.size + 1) p1 (rowT T2 16)) := R1.out.below hb2
      have I2 : Hid (IsLines u2 u1.heap.size p2 (linesT T2 16)) := hr
      clear hr hb2 M1 R1 LC3
      go_wp2_with fail
      go_loopw [54] (fun x W => ∃ (m : Nat), m ≤ nl ∧ x = .int .i64 m ∧ Hid (Own w W w.heap.size T2) ∧ Hid (IsRl W (w.heap.size + 1) p1 (rowT T2 16)) ∧ Hid (IsLines W u1.heap.size p2 (linesT T2 16))) (fun x _ => nl - (intOf x).toNat)
      case atStart => exact ⟨0, by omega, rfl, M2, R2, I2⟩
      case round =>
        obtain ⟨m, hm, rfl, hM3, hR3, hI3⟩ := hrel
        by_cases hlm : m < nl
        · have hdm : decide ((m : Int) < (nl : Int)) = true := by simp; omega
          have m0 : (0 : Int) ≤ (m : Int) := by omega
          have m1 : (m : Int) < (nl : Int) := by omega
          obtain ⟨g, rfl, g1, g2, gc⟩ := hI3.out m (by rw [HNL.out]; exact hlm)
          obtain ⟨g', rfl, g1', g2', gc'⟩ := hR3.out m (by rw [RLN.out, HNL.out]; exact hlm)
          obtain ⟨ra1, ra2⟩ := RA.out m (by rw [HNL.out]; exact hlm)
          rw [← ra2] at gc'
          generalize ((rowT T2 16).getD m Rl.zero).y = ry at gc'
          clear ra2
          generalize (linesT T2 16).getD m Ln.zero = ln at gc gc' ra1
          obtain ⟨lv, lt, lp, lf, lw, lu, lx, lg, ld⟩ := ln
          simp only at ra1
          subst ra1
          have y0 : wr.cell? ⟨g, m * 9, none⟩ = some (.bool true) := gc 0 _ rfl
          have y1 : wr.cell? ⟨g, m * 9 + 1, none⟩ = some (.int .i64 lt) := gc 1 _ rfl
          have y2 : wr.cell? ⟨g, m * 9 + 2, none⟩ = some (.int .i64 lp) := gc 2 _ rfl
          have y3 : wr.cell? ⟨g, m * 9 + 3, none⟩ = some (.int .i64 lf) := gc 3 _ rfl
          have y4 : wr.cell? ⟨g, m * 9 + 4, none⟩ = some (.bool lw) := gc 4 _ rfl
          have y5 : wr.cell? ⟨g, m * 9 + 5, none⟩ = some (.bool lu) := gc 5 _ rfl
          have y6 : wr.cell? ⟨g, m * 9 + 6, none⟩ = some (.bool lx) := gc 6 _ rfl
          have y7 : wr.cell? ⟨g, m * 9 + 7, none⟩ = some (.bool lg) := gc 7 _ rfl
          have y8 : wr.cell? ⟨g, m * 9 + 8, none⟩ = some (.bool ld) := gc 8 _ rfl
          have gc2 : Hid (∀ j x, ([.int .i64 ry, .int .i64 lt, .int .i64 lp, .int .i64 lf, .bool lw, .bool lu, .bool lx, .bool lg, .bool ld] : List Value)[j]? = some x → wr.cell? ⟨g', m * 9 + j, none⟩ = some x) := gc'
          clear gc gc'
          have TC2 := TC.out true lt lp lf lw lu lx lg ld ry
          have TC3 : Hid _ := TC2
          clear TC2
          go_wp2_with fail
          have CA : Hid ((∀ j x, ([.bool true, .int .i64 lt, .int .i64 lp, .int .i64 lf, .bool lw, .bool lu, .bool lx, .bool lg, .bool ld] : List Value)[j]? = some x → (wr.alloc (.cells #[.bool true, .int .i64 lt, .int .i64 lp, .int .i64 lf, .bool lw, .bool lu, .bool lx, .bool lg, .bool ld] 54)).cell? ⟨wr.heap.size, j, none⟩ = some x) ∧ (∀ j x, ([.int .i64 ry, .int .i64 lt, .int .i64 lp, .int .i64 lf, .bool lw, .bool lu, .bool lx, .bool lg, .bool ld] : List Value)[j]? = some x → (wr.alloc (.cells #[.bool true, .int .i64 lt, .int .i64 lp, .int .i64 lf, .bool lw, .bool lu, .bool lx, .bool lg, .bool ld] 54)).cell? ⟨g', m * 9 + j, none⟩ = some x)) := ⟨fun j x hx => (Go.Joins.cell_of_block (own1 wr _) j).trans (by simpa using hx), fun j x hx => (World.cell?_alloc_lt _ _ _ g2').trans (gc2.out j x hx)⟩
          have MB : Hid (Own w (wr.alloc (.cells #[.bool true, .int .i64 lt, .int .i64 lp, .int .i64 lf, .bool lw, .bool lu, .bool lx, .bool lg, .bool ld] 54)) w.heap.size T2) := hM3.out.grow (Go.Joins.below_alloc1 _ _)
          have RB : Hid (IsRl (wr.alloc (.cells #[.bool true, .int .i64 lt, .int .i64 lp, .int .i64 lf, .bool lw, .bool lu, .bool lx, .bool lg, .bool ld] 54)) (w.heap.size + 1) (some ⟨g', 0, none⟩) (rowT T2 16)) := hR3.out.below (Go.Joins.below_alloc1 _ _)
          have IB : Hid (IsLines (wr.alloc (.cells #[.bool true, .int .i64 lt, .int .i64 lp, .int .i64 lf, .bool lw, .bool lu, .bool lx, .bool lg, .bool ld] 54)) u1.heap.size (some ⟨g, 0, none⟩) (linesT T2 16)) := hI3.out.below (Go.Joins.below_alloc1 _ _)
          have lX : Hid (wr.heap.size < (wr.alloc (.cells #[.bool true, .int .i64 lt, .int .i64 lp, .int .i64 lf, .bool lw, .bool lu, .bool lx, .bool lg, .bool ld] 54)).heap.size ∧ g' < (wr.alloc (.cells #[.bool true, .int .i64 lt, .int .i64 lp, .int .i64 lf, .bool lw, .bool lu, .bool lx, .bool lg, .bool ld] 54)).heap.size) := ⟨by rw [World.size_alloc]; omega, by rw [World.size_alloc]; omega⟩
          refine wp_region_noPanic ?_
          refine wp_region_held_drew (S := fun c => (∀ j x, ([.bool true, .int .i64 lt, .int .i64 lp, .int .i64 lf, .bool lw, .bool lu, .bool lx, .bool lg, .bool ld] : List Value)[j]? = some x → c.cell? ⟨wr.heap.size, j, none⟩ = some x) ∧ (∀ j x, ([.int .i64 ry, .int .i64 lt, .int .i64 lp, .int .i64 lf, .bool lw, .bool lu, .bool lx, .bool lg, .bool ld] : List Value)[j]? = some x → c.cell? ⟨g', m * 9 + j, none⟩ = some x)) (by kernel_rfl) ?_ (fun hHeld => ?_)
          · exact CA.out
          have BU : Hid (Own w (wr.alloc (.cells #[.bool true, .int .i64 lt, .int .i64 lp, .int .i64 lf, .bool lw, .bool lu, .bool lx, .bool lg, .bool ld] 54)).drew w.heap.size T2) := ⟨MB.out.1, ⟨MB.out.2.1.os, MB.out.2.1.tape, MB.out.2.1.output, MB.out.2.1.size, MB.out.2.1.block⟩, MB.out.2.2⟩
          have RU : Hid (IsRl (wr.alloc (.cells #[.bool true, .int .i64 lt, .int .i64 lp, .int .i64 lf, .bool lw, .bool lu, .bool lx, .bool lg, .bool ld] 54)).drew (w.heap.size + 1) (some ⟨g', 0, none⟩) (rowT T2 16)) := RB.out
          have IU : Hid (IsLines (wr.alloc (.cells #[.bool true, .int .i64 lt, .int .i64 lp, .int .i64 lf, .bool lw, .bool lu, .bool lx, .bool lg, .bool ld] 54)).drew u1.heap.size (some ⟨g, 0, none⟩) (linesT T2 16)) := IB.out
          have CU : Hid ((∀ j x, ([.bool true, .int .i64 lt, .int .i64 lp, .int .i64 lf, .bool lw, .bool lu, .bool lx, .bool lg, .bool ld] : List Value)[j]? = some x → (wr.alloc (.cells #[.bool true, .int .i64 lt, .int .i64 lp, .int .i64 lf, .bool lw, .bool lu, .bool lx, .bool lg, .bool ld] 54)).drew.cell? ⟨wr.heap.size, j, none⟩ = some x) ∧ (∀ j x, ([.int .i64 ry, .int .i64 lt, .int .i64 lp, .int .i64 lf, .bool lw, .bool lu, .bool lx, .bool lg, .bool ld] : List Value)[j]? = some x → (wr.alloc (.cells #[.bool true, .int .i64 lt, .int .i64 lp, .int .i64 lf, .bool lw, .bool lu, .bool lx, .bool lg, .bool ld] 54)).drew.cell? ⟨g', m * 9 + j, none⟩ = some x)) := CA.out
          have LU : Hid (wr.heap.size < (wr.alloc (.cells #[.bool true, .int .i64 lt, .int .i64 lp, .int .i64 lf, .bool lw, .bool lu, .bool lx, .bool lg, .bool ld] 54)).drew.heap.size ∧ g' < (wr.alloc (.cells #[.bool true, .int .i64 lt, .int .i64 lp, .int .i64 lf, .bool lw, .bool lu, .bool lx, .bool lg, .bool ld] 54)).drew.heap.size) := lX.out
          clear CA MB RB IB lX gc2 hM3 hR3 hI3 y0 y1 y2 y3 y4 y5 y6 y7 y8
          generalize (wr.alloc (.cells #[.bool true, .int .i64 lt, .int .i64 lp, .int .i64 lf, .bool lw, .bool lu, .bool lx, .bool lg, .bool ld] 54)).drew = U at BU RU IU CU LU hHeld ⊢
          refine wpAnyH_take (i := 0) (oi := ⟨some 59, _, _, _, _, none⟩) (v := ?_) rfl (by kernel_rfl) (by kernel_rfl) (by kernel_rfl) (fun _ _ _ h => h) (Or.inl ⟨by rfl, ?_⟩) (by assumption) ?_
          rotate_left
          · intro w hSw; (try dsimp only at hSw); go_simp; (try with_reducible rfl)
          try simp only [Act.put, List.setIfInBounds_toArray, List.set_cons_zero, List.set_cons_succ]
          refine wpAnyH_take (i := 1) (oi := ⟨some 60, _, _, _, _, none⟩) (v := .bool true) rfl (by kernel_rfl) (by kernel_rfl) (by kernel_rfl) (fun _ _ _ h => h) (Or.inl ⟨by rfl, ?_⟩) (by assumption) ?_
          · intro w hSw; (try dsimp only at hSw); have q0 : w.cell? ⟨wr.heap.size, 0, none⟩ = some (.bool true) := hSw.1 0 _ rfl; go_simp; (try simp)
          try simp only [Act.put, List.setIfInBounds_toArray, List.set_cons_zero, List.set_cons_succ]
          refine wpAnyH_take (i := 2) (oi := ⟨some 61, _, _, _, _, none⟩) (v := ?_) rfl (by kernel_rfl) (by kernel_rfl) (by kernel_rfl) (fun _ _ _ h => h) (Or.inl ⟨by rfl, ?_⟩) (by assumption) ?_
          rotate_left
          · intro w hSw; (try dsimp only at hSw); go_simp; (try with_reducible rfl)
          try simp only [Act.put, List.setIfInBounds_toArray, List.set_cons_zero, List.set_cons_succ]
          refine wpAnyH_take (i := 3) (oi := ⟨some 62, _, _, _, _, none⟩) (v := ?_) rfl (by kernel_rfl) (by kernel_rfl) (by kernel_rfl) (fun _ _ _ h => h) (Or.inl ⟨by rfl, ?_⟩) (by assumption) ?_
          rotate_left
          · intro w hSw; (try dsimp only at hSw); go_simp; (try with_reducible rfl)
          try simp only [Act.put, List.setIfInBounds_toArray, List.set_cons_zero, List.set_cons_succ]
          refine wpAnyH_take (i := 4) (oi := ⟨some 63, _, _, _, _, some (3, false)⟩) (v := .agg #[.bool true, .int .i64 lt, .int .i64 lp, .int .i64 lf, .bool lw, .bool lu, .bool lx, .bool lg, .bool ld]) rfl (by kernel_rfl) (by kernel_rfl) (by kernel_rfl) (fun _ _ _ h => h) (Or.inl ⟨by rfl, ?_⟩) (by assumption) ?_
          · intro w hSw; (try dsimp only at hSw); have q0 : w.cell? ⟨wr.heap.size, 0, none⟩ = some (.bool true) := hSw.1 0 _ rfl; have q1 : w.cell? ⟨wr.heap.size, 1, none⟩ = some (.int .i64 lt) := hSw.1 1 _ rfl; have q2 : w.cell? ⟨wr.heap.size, 2, none⟩ = some (.int .i64 lp) := hSw.1 2 _ rfl; have q3 : w.cell? ⟨wr.heap.size, 3, none⟩ = some (.int .i64 lf) := hSw.1 3 _ rfl; have q4 : w.cell? ⟨wr.heap.size, 4, none⟩ = some (.bool lw) := hSw.1 4 _ rfl; have q5 : w.cell? ⟨wr.heap.size, 5, none⟩ = some (.bool lu) := hSw.1 5 _ rfl; have q6 : w.cell? ⟨wr.heap.size, 6, none⟩ = some (.bool lx) := hSw.1 6 _ rfl; have q7 : w.cell? ⟨wr.heap.size, 7, none⟩ = some (.bool lg) := hSw.1 7 _ rfl; have q8 : w.cell? ⟨wr.heap.size, 8, none⟩ = some (.bool ld) := hSw.1 8 _ rfl; go_simp; (try simp)
          try simp only [Act.put, List.setIfInBounds_toArray, List.set_cons_zero, List.set_cons_succ]
          refine wpAnyH_take (i := 5) (oi := ⟨some 64, _, _, _, _, some (3, false)⟩) (v := ?_) rfl (by kernel_rfl) (by kernel_rfl) (by kernel_rfl) (fun _ _ _ h => h) (Or.inl ⟨by rfl, ?_⟩) (by assumption) ?_
          rotate_left
          · intro w hSw; (try dsimp only at hSw); go_simp; (try with_reducible rfl)
          try simp only [Act.put, List.setIfInBounds_toArray, List.set_cons_zero, List.set_cons_succ]
          refine wpAnyH_take (i := 6) (oi := ⟨some 65, _, _, _, _, some (3, false)⟩) (v := ?_) rfl (by kernel_rfl) (by kernel_rfl) (by kernel_rfl) (fun _ _ _ h => h) (Or.inl ⟨by rfl, ?_⟩) (by assumption) ?_
          rotate_left
          · intro w hSw; (try dsimp only at hSw); go_simp; (try with_reducible rfl)
          try simp only [Act.put, List.setIfInBounds_toArray, List.set_cons_zero, List.set_cons_succ]
          refine wpAnyH_take (i := 7) (oi := ⟨some 66, _, _, _, _, some (3, false)⟩) (v := (.pointer (some ⟨g', m * 9, none⟩))) rfl (by kernel_rfl) (by kernel_rfl) (by kernel_rfl) (fun _ _ _ h => h) (Or.inl ⟨by rfl, ?_⟩) (by assumption) ?_
          · intro w hSw; (try dsimp only at hSw); go_simp; (try simp); (try (simp only [IntKind.wrap_i64]; omega))
          try simp only [Act.put, List.setIfInBounds_toArray, List.set_cons_zero, List.set_cons_succ]
          refine wpAnyH_take (i := 8) (oi := ⟨some 67, _, _, _, _, some (3, false)⟩) (v := ?_) rfl (by kernel_rfl) (by kernel_rfl) (by kernel_rfl) (fun _ _ _ h => h) (Or.inl ⟨by rfl, ?_⟩) (by assumption) ?_
          rotate_left
          · intro w hSw; (try dsimp only at hSw); go_simp; (try with_reducible rfl)
          try simp only [Act.put, List.setIfInBounds_toArray, List.set_cons_zero, List.set_cons_succ]
          refine wpAnyH_take (i := 9) (oi := ⟨some 68, _, _, _, _, some (3, false)⟩) (v := (.int .i64 ry)) rfl (by kernel_rfl) (by kernel_rfl) (by kernel_rfl) (fun _ _ _ h => h) (Or.inl ⟨by rfl, ?_⟩) (by assumption) ?_
          · intro w hSw; (try dsimp only at hSw); have q0 : w.cell? ⟨g', m * 9, none⟩ = some (.int .i64 ry) := hSw.2 0 _ rfl; go_simp; (try simp)
          try simp only [Act.put, List.setIfInBounds_toArray, List.set_cons_zero, List.set_cons_succ]
          refine wpAnyH_take (i := 11) (oi := ⟨some 70, _, _, _, _, some (3, false)⟩) (v := ?_) rfl (by kernel_rfl) (by kernel_rfl) (by kernel_rfl) (fun _ _ _ h => h) (Or.inl ⟨by rfl, ?_⟩) (by assumption) ?_
          rotate_left
          · intro w hSw; (try dsimp only at hSw); go_simp; (try with_reducible rfl)
          try simp only [Act.put, List.setIfInBounds_toArray, List.set_cons_zero, List.set_cons_succ]
          refine wpAnyH_take (i := 12) (oi := ⟨some 71, _, _, _, _, some (3, false)⟩) (v := ?_) rfl (by kernel_rfl) (by kernel_rfl) (by kernel_rfl) (fun _ _ _ h => h) (Or.inl ⟨by rfl, ?_⟩) (by assumption) ?_
          rotate_left
          · intro w hSw; (try dsimp only at hSw); go_simp; (try with_reducible rfl)
          try simp only [Act.put, List.setIfInBounds_toArray, List.set_cons_zero, List.set_cons_succ]
          refine wpAnyH_take (i := 13) (oi := ⟨some 72, _, _, _, _, some (3, false)⟩) (v := (.pointer (some ⟨g', m * 9, none⟩))) rfl (by kernel_rfl) (by kernel_rfl) (by kernel_rfl) (fun _ _ _ h => h) (Or.inl ⟨by rfl, ?_⟩) (by assumption) ?_
          · intro w hSw; (try dsimp only at hSw); go_simp; (try simp); (try (simp only [IntKind.wrap_i64]; omega))
          try simp only [Act.put, List.setIfInBounds_toArray, List.set_cons_zero, List.set_cons_succ]
          refine wpAnyH_take (i := 14) (oi := ⟨some 73, _, _, _, _, some (3, false)⟩) (v := .agg #[.int .i64 ry, .int .i64 lt, .int .i64 lp, .int .i64 lf, .bool lw, .bool lu, .bool lx, .bool lg, .bool ld]) rfl (by kernel_rfl) (by kernel_rfl) (by kernel_rfl) (fun _ _ _ h => h) (Or.inl ⟨by rfl, ?_⟩) (by assumption) ?_
          · intro w hSw; (try dsimp only at hSw); have q0 : w.cell? ⟨g', m * 9, none⟩ = some (.int .i64 ry) := hSw.2 0 _ rfl; have q1 : w.cell? ⟨g', m * 9 + 1, none⟩ = some (.int .i64 lt) := hSw.2 1 _ rfl; have q2 : w.cell? ⟨g', m * 9 + 2, none⟩ = some (.int .i64 lp) := hSw.2 2 _ rfl; have q3 : w.cell? ⟨g', m * 9 + 3, none⟩ = some (.int .i64 lf) := hSw.2 3 _ rfl; have q4 : w.cell? ⟨g', m * 9 + 4, none⟩ = some (.bool lw) := hSw.2 4 _ rfl; have q5 : w.cell? ⟨g', m * 9 + 5, none⟩ = some (.bool lu) := hSw.2 5 _ rfl; have q6 : w.cell? ⟨g', m * 9 + 6, none⟩ = some (.bool lx) := hSw.2 6 _ rfl; have q7 : w.cell? ⟨g', m * 9 + 7, none⟩ = some (.bool lg) := hSw.2 7 _ rfl; have q8 : w.cell? ⟨g', m * 9 + 8, none⟩ = some (.bool ld) := hSw.2 8 _ rfl; go_simp; (try simp)
          try simp only [Act.put, List.setIfInBounds_toArray, List.set_cons_zero, List.set_cons_succ]
          refine wpAnyH_ready (rs := [10]) (by kernel_rfl) (by simp) ?_
          refine AllReadyH.cons (o := ⟨some 69, _, _, _, _, some (3, false)⟩) rfl (fun K hK => ?_) AllReadyH.nil
          go_simp
          go_wp2_with (go_at_call 24; refine (TC3.out _).mono ?_; rintro e v1 ⟨rfl, hb⟩)
          have B1 : Hid (Own w v1 w.heap.size T2) := BU.out.grow hb
          have R1 : Hid (IsRl v1 (w.heap.size + 1) (some ⟨g', 0, none⟩) (rowT T2 16)) := RU.out.below hb
          have I1 : Hid (IsLines v1 u1.heap.size (some ⟨g, 0, none⟩) (linesT T2 16)) := IU.out.below hb
          have C1 : Hid ((∀ j x, ([.bool true, .int .i64 lt, .int .i64 lp, .int .i64 lf, .bool lw, .bool lu, .bool lx, .bool lg, .bool ld] : List Value)[j]? = some x → v1.cell? ⟨wr.heap.size, j, none⟩ = some x) ∧ (∀ j x, ([.int .i64 ry, .int .i64 lt, .int .i64 lp, .int .i64 lf, .bool lw, .bool lu, .bool lx, .bool lg, .bool ld] : List Value)[j]? = some x → v1.cell? ⟨g', m * 9 + j, none⟩ = some x)) := ⟨fun j x hx => (hb.cell (p := ⟨wr.heap.size, j, none⟩) LU.out.1).trans (CU.out.1 j x hx), fun j x hx => (hb.cell (p := ⟨g', m * 9 + j, none⟩) LU.out.2).trans (CU.out.2 j x hx)⟩
          clear hb hHeld BU RU IU CU LU
          refine hK.out _ _ C1.out (fun hHeld => ?_)
          clear hK K
          try simp only [Act.put, List.setIfInBounds_toArray, List.set_cons_zero, List.set_cons_succ]
          refine wpAnyH_take (i := 15) (oi := ⟨some 74, _, _, _, _, some (3, false)⟩) (v := .bool false) rfl (by kernel_rfl) (by kernel_rfl) (by kernel_rfl) (fun _ _ _ h => h) (Or.inl ⟨by rfl, ?_⟩) (by assumption) ?_
          · intro w hSw; (try dsimp only at hSw); go_simp; (try simp); (try (simp only [IntKind.wrap_i64]; omega))
          try simp only [Act.put, List.setIfInBounds_toArray, List.set_cons_zero, List.set_cons_succ]
          refine wpAnyH_take (i := 16) (oi := ⟨some 75, _, _, _, _, none⟩) (v := ?_) rfl (by kernel_rfl) (by kernel_rfl) (by kernel_rfl) (fun _ _ _ h => h) (Or.inl ⟨by rfl, ?_⟩) (by assumption) ?_
          rotate_left
          · intro w hSw; (try dsimp only at hSw); go_simp; (try with_reducible rfl)
          try simp only [Act.put, List.setIfInBounds_toArray, List.set_cons_zero, List.set_cons_succ]
          clear hHeld C1
          refine wpAnyH_done (by kernel_rfl) ?_ _
          refine NoPanic.normal ?_
          go_wp2_with fail
          go_roundw
          case rel => exact ⟨m + 1, by omega, by go_num, B1, R1, I1⟩
          case measure => simp [intOf]; omega
        · have hdm : decide ((m : Int) < (nl : Int)) = false := by simp; omega
          obtain rfl : m = nl := by omega
          clear RA hI3
          obtain ⟨ffT, hfT⟩ : ∃ z, findT T2 a1 a2 = z := ⟨_, rfl⟩
          obtain ⟨ffL, hfL⟩ : ∃ z, findL (rowT T2 16) a1 a2 = z := ⟨_, rfl⟩
          rw [hfT] at FC3 FA'
          rw [hfL] at RF4 FA'
          clear hfT hfL
          rcases FA'.out with ⟨fl, fy, e1, e2⟩ | ⟨e1, e2⟩
          · subst e1 e2
            obtain ⟨lv, lt, lp, lf, lw, lu, lx, lg, ld⟩ := fl
            simp only [toldR] at RF4 FC3
            go_wp2_with fail
            refine (FC3.out _ hM3.out.1).mono ?_
            rintro e u3 ⟨rfl, hb⟩
            have M3 : Hid (Own w u3 w.heap.size T2) := hM3.out.grow hb
            have R3 : Hid (IsRl u3 (w.heap.size + 1) p1 (rowT T2 16)) := hR3.out.below hb
            clear hb hM3 hR3
            go_wp2_with fail
            refine (RF4.out _ (R3.out.below (Go.Joins.below_alloc1 _ _))).mono ?_
            rintro e u4 ⟨rfl, hb⟩
            have M4 : Hid (Own w u4 w.heap.size T2) := (M3.out.grow (Go.Joins.below_alloc1 _ _)).grow hb
            have R4 : Hid (IsRl u4 (w.heap.size + 1) p1 (rowT T2 16)) := (R3.out.below (Go.Joins.below_alloc1 _ _)).below hb
            have x0 : u4.cell? ⟨u3.heap.size, 0, none⟩ = some (.bool lv) := (hb.cell (p := ⟨u3.heap.size, 0, none⟩) (by simp)).trans (by simp)
            have x1 : u4.cell? ⟨u3.heap.size, 1, none⟩ = some (.int .i64 lt) := (hb.cell (p := ⟨u3.heap.size, 1, none⟩) (by simp)).trans (by simp)
            have x2 : u4.cell? ⟨u3.heap.size, 2, none⟩ = some (.int .i64 lp) := (hb.cell (p := ⟨u3.heap.size, 2, none⟩) (by simp)).trans (by simp)
            have x3 : u4.cell? ⟨u3.heap.size, 3, none⟩ = some (.int .i64 lf) := (hb.cell (p := ⟨u3.heap.size, 3, none⟩) (by simp)).trans (by simp)
            have x4 : u4.cell? ⟨u3.heap.size, 4, none⟩ = some (.bool lw) := (hb.cell (p := ⟨u3.heap.size, 4, none⟩) (by simp)).trans (by simp)
            have x5 : u4.cell? ⟨u3.heap.size, 5, none⟩ = some (.bool lu) := (hb.cell (p := ⟨u3.heap.size, 5, none⟩) (by simp)).trans (by simp)
            have x6 : u4.cell? ⟨u3.heap.size, 6, none⟩ = some (.bool lx) := (hb.cell (p := ⟨u3.heap.size, 6, none⟩) (by simp)).trans (by simp)
            have x7 : u4.cell? ⟨u3.heap.size, 7, none⟩ = some (.bool lg) := (hb.cell (p := ⟨u3.heap.size, 7, none⟩) (by simp)).trans (by simp)
            have x8 : u4.cell? ⟨u3.heap.size, 8, none⟩ = some (.bool ld) := (hb.cell (p := ⟨u3.heap.size, 8, none⟩) (by simp)).trans (by simp)
            have l4 : u3.heap.size < u4.heap.size := Nat.lt_of_lt_of_le (by simp) hb.size
            clear hb M3 R3
            go_wp2_with fail
            have XA : Hid (∀ j x, ([.bool lv, .int .i64 lt, .int .i64 lp, .int .i64 lf, .bool lw, .bool lu, .bool lx, .bool lg, .bool ld] : List Value)[j]? = some x → u4.cell? ⟨u3.heap.size, j, none⟩ = some x) := by
              intro j x hx
              match j, hx with
              | 0, hx => cases hx; exact x0
              | 1, hx => cases hx; exact x1
              | 2, hx => cases hx; exact x2
              | 3, hx => cases hx; exact x3
              | 4, hx => cases hx; exact x4
              | 5, hx => cases hx; exact x5
              | 6, hx => cases hx; exact x6
              | 7, hx => cases hx; exact x7
              | 8, hx => cases hx; exact x8
              | j + 9, hx => simp at hx
            have CA : Hid ((∀ j x, ([.bool lv, .int .i64 lt, .int .i64 lp, .int .i64 lf, .bool lw, .bool lu, .bool lx, .bool lg, .bool ld] : List Value)[j]? = some x → (u4.alloc (.cells #[.int .i64 fy, .int .i64 lt, .int .i64 lp, .int .i64 lf, .bool lw, .bool lu, .bool lx, .bool lg, .bool ld] 68)).cell? ⟨u3.heap.size, j, none⟩ = some x) ∧ (∀ j x, ([.int .i64 fy, .int .i64 lt, .int .i64 lp, .int .i64 lf, .bool lw, .bool lu, .bool lx, .bool lg, .bool ld] : List Value)[j]? = some x → (u4.alloc (.cells #[.int .i64 fy, .int .i64 lt, .int .i64 lp, .int .i64 lf, .bool lw, .bool lu, .bool lx, .bool lg, .bool ld] 68)).cell? ⟨u4.heap.size, j, none⟩ = some x)) := ⟨fun j x hx => (World.cell?_alloc_lt _ _ _ l4).trans (XA.out j x hx), fun j x hx => (Go.Joins.cell_of_block (own1 u4 _) j).trans (by simpa using hx)⟩
            have MB : Hid (Own w (u4.alloc (.cells #[.int .i64 fy, .int .i64 lt, .int .i64 lp, .int .i64 lf, .bool lw, .bool lu, .bool lx, .bool lg, .bool ld] 68)) w.heap.size T2) := M4.out.grow (Go.Joins.below_alloc1 _ _)
            have RB : Hid (IsRl (u4.alloc (.cells #[.int .i64 fy, .int .i64 lt, .int .i64 lp, .int .i64 lf, .bool lw, .bool lu, .bool lx, .bool lg, .bool ld] 68)) (w.heap.size + 1) p1 (rowT T2 16)) := R4.out.below (Go.Joins.below_alloc1 _ _)
            have lX : Hid (u3.heap.size < (u4.alloc (.cells #[.int .i64 fy, .int .i64 lt, .int .i64 lp, .int .i64 lf, .bool lw, .bool lu, .bool lx, .bool lg, .bool ld] 68)).heap.size ∧ u4.heap.size < (u4.alloc (.cells #[.int .i64 fy, .int .i64 lt, .int .i64 lp, .int .i64 lf, .bool lw, .bool lu, .bool lx, .bool lg, .bool ld] 68)).heap.size) := ⟨by rw [World.size_alloc]; omega, by rw [World.size_alloc]; omega⟩
            refine wp_region_noPanic ?_
            refine wp_region_held_drew (S := fun c => (∀ j x, ([.bool lv, .int .i64 lt, .int .i64 lp, .int .i64 lf, .bool lw, .bool lu, .bool lx, .bool lg, .bool ld] : List Value)[j]? = some x → c.cell? ⟨u3.heap.size, j, none⟩ = some x) ∧ (∀ j x, ([.int .i64 fy, .int .i64 lt, .int .i64 lp, .int .i64 lf, .bool lw, .bool lu, .bool lx, .bool lg, .bool ld] : List Value)[j]? = some x → c.cell? ⟨u4.heap.size, j, none⟩ = some x)) (by kernel_rfl) ?_ (fun hHeld => ?_)
            · exact CA.out
            have BU : Hid (Own w (u4.alloc (.cells #[.int .i64 fy, .int .i64 lt, .int .i64 lp, .int .i64 lf, .bool lw, .bool lu, .bool lx, .bool lg, .bool ld] 68)).drew w.heap.size T2) := ⟨MB.out.1, ⟨MB.out.2.1.os, MB.out.2.1.tape, MB.out.2.1.output, MB.out.2.1.size, MB.out.2.1.block⟩, MB.out.2.2⟩
            have RU : Hid (IsRl (u4.alloc (.cells #[.int .i64 fy, .int .i64 lt, .int .i64 lp, .int .i64 lf, .bool lw, .bool lu, .bool lx, .bool lg, .bool ld] 68)).drew (w.heap.size + 1) p1 (rowT T2 16)) := RB.out
            have CU : Hid ((∀ j x, ([.bool lv, .int .i64 lt, .int .i64 lp, .int .i64 lf, .bool lw, .bool lu, .bool lx, .bool lg, .bool ld] : List Value)[j]? = some x → (u4.alloc (.cells #[.int .i64 fy, .int .i64 lt, .int .i64 lp, .int .i64 lf, .bool lw, .bool lu, .bool lx, .bool lg, .bool ld] 68)).drew.cell? ⟨u3.heap.size, j, none⟩ = some x) ∧ (∀ j x, ([.int .i64 fy, .int .i64 lt, .int .i64 lp, .int .i64 lf, .bool lw, .bool lu, .bool lx, .bool lg, .bool ld] : List Value)[j]? = some x → (u4.alloc (.cells #[.int .i64 fy, .int .i64 lt, .int .i64 lp, .int .i64 lf, .bool lw, .bool lu, .bool lx, .bool lg, .bool ld] 68)).drew.cell? ⟨u4.heap.size, j, none⟩ = some x)) := CA.out
            have LU : Hid (u3.heap.size < (u4.alloc (.cells #[.int .i64 fy, .int .i64 lt, .int .i64 lp, .int .i64 lf, .bool lw, .bool lu, .bool lx, .bool lg, .bool ld] 68)).drew.heap.size ∧ u4.heap.size < (u4.alloc (.cells #[.int .i64 fy, .int .i64 lt, .int .i64 lp, .int .i64 lf, .bool lw, .bool lu, .bool lx, .bool lg, .bool ld] 68)).drew.heap.size) := lX.out
            have TC2 := TC.out lv lt lp lf lw lu lx lg ld fy
            have TC3 : Hid _ := TC2
            clear TC2 CA MB RB lX XA M4 R4 l4 x0 x1 x2 x3 x4 x5 x6 x7 x8
            generalize (u4.alloc (.cells #[.int .i64 fy, .int .i64 lt, .int .i64 lp, .int .i64 lf, .bool lw, .bool lu, .bool lx, .bool lg, .bool ld] 68)).drew = U at BU RU CU LU hHeld ⊢
            refine wpAnyH_take (i := 0) (oi := ⟨some 90, _, _, _, _, none⟩) (v := ?_) rfl (by kernel_rfl) (by kernel_rfl) (by kernel_rfl) (fun _ _ _ h => h) (Or.inl ⟨by rfl, ?_⟩) (by assumption) ?_
            rotate_left
            · intro w hSw; (try dsimp only at hSw); go_simp; (try with_reducible rfl)
            try simp only [Act.put, List.setIfInBounds_toArray, List.set_cons_zero, List.set_cons_succ]
            refine wpAnyH_take (i := 1) (oi := ⟨some 91, _, _, _, _, none⟩) (v := ?_) rfl (by kernel_rfl) (by kernel_rfl) (by kernel_rfl) (fun _ _ _ h => h) (Or.inl ⟨by rfl, ?_⟩) (by assumption) ?_
            rotate_left
            · intro w hSw; (try dsimp only at hSw); go_simp; (try with_reducible rfl)
            try simp only [Act.put, List.setIfInBounds_toArray, List.set_cons_zero, List.set_cons_succ]
            refine wpAnyH_take (i := 2) (oi := ⟨some 92, _, _, _, _, none⟩) (v := ?_) rfl (by kernel_rfl) (by kernel_rfl) (by kernel_rfl) (fun _ _ _ h => h) (Or.inl ⟨by rfl, ?_⟩) (by assumption) ?_
            rotate_left
            · intro w hSw; (try dsimp only at hSw); go_simp; (try with_reducible rfl)
            try simp only [Act.put, List.setIfInBounds_toArray, List.set_cons_zero, List.set_cons_succ]
            refine wpAnyH_take (i := 3) (oi := ⟨some 93, _, _, _, _, none⟩) (v := ?_) rfl (by kernel_rfl) (by kernel_rfl) (by kernel_rfl) (fun _ _ _ h => h) (Or.inl ⟨by rfl, ?_⟩) (by assumption) ?_
            rotate_left
            · intro w hSw; (try dsimp only at hSw); go_simp; (try with_reducible rfl)
            try simp only [Act.put, List.setIfInBounds_toArray, List.set_cons_zero, List.set_cons_succ]
            refine wpAnyH_take (i := 4) (oi := ⟨some 94, _, _, _, _, some (3, false)⟩) (v := ?_) rfl (by kernel_rfl) (by kernel_rfl) (by kernel_rfl) (fun _ _ _ h => h) (Or.inl ⟨by rfl, ?_⟩) (by assumption) ?_
            rotate_left
            · intro w hSw; (try dsimp only at hSw); go_simp; (try with_reducible rfl)
            try simp only [Act.put, List.setIfInBounds_toArray, List.set_cons_zero, List.set_cons_succ]
            refine wpAnyH_take (i := 5) (oi := ⟨some 95, _, _, _, _, some (3, false)⟩) (v := ?_) rfl (by kernel_rfl) (by kernel_rfl) (by kernel_rfl) (fun _ _ _ h => h) (Or.inl ⟨by rfl, ?_⟩) (by assumption) ?_
            rotate_left
            · intro w hSw; (try dsimp only at hSw); go_simp; (try with_reducible rfl)
            try simp only [Act.put, List.setIfInBounds_toArray, List.set_cons_zero, List.set_cons_succ]
            refine wpAnyH_take (i := 6) (oi := ⟨some 96, _, _, _, _, some (5, true)⟩) (v := .agg #[.bool lv, .int .i64 lt, .int .i64 lp, .int .i64 lf, .bool lw, .bool lu, .bool lx, .bool lg, .bool ld]) rfl (by kernel_rfl) (by kernel_rfl) (by kernel_rfl) (fun _ _ _ h => h) (Or.inl ⟨by rfl, ?_⟩) (by assumption) ?_
            · intro w hSw; (try dsimp only at hSw); have q0 : w.cell? ⟨u3.heap.size, 0, none⟩ = some (.bool lv) := hSw.1 0 _ rfl; have q1 : w.cell? ⟨u3.heap.size, 1, none⟩ = some (.int .i64 lt) := hSw.1 1 _ rfl; have q2 : w.cell? ⟨u3.heap.size, 2, none⟩ = some (.int .i64 lp) := hSw.1 2 _ rfl; have q3 : w.cell? ⟨u3.heap.size, 3, none⟩ = some (.int .i64 lf) := hSw.1 3 _ rfl; have q4 : w.cell? ⟨u3.heap.size, 4, none⟩ = some (.bool lw) := hSw.1 4 _ rfl; have q5 : w.cell? ⟨u3.heap.size, 5, none⟩ = some (.bool lu) := hSw.1 5 _ rfl; have q6 : w.cell? ⟨u3.heap.size, 6, none⟩ = some (.bool lx) := hSw.1 6 _ rfl; have q7 : w.cell? ⟨u3.heap.size, 7, none⟩ = some (.bool lg) := hSw.1 7 _ rfl; have q8 : w.cell? ⟨u3.heap.size, 8, none⟩ = some (.bool ld) := hSw.1 8 _ rfl; go_simp; (try simp)
            try simp only [Act.put, List.setIfInBounds_toArray, List.set_cons_zero, List.set_cons_succ]
            refine wpAnyH_take (i := 7) (oi := ⟨some 97, _, _, _, _, some (5, true)⟩) (v := ?_) rfl (by kernel_rfl) (by kernel_rfl) (by kernel_rfl) (fun _ _ _ h => h) (Or.inl ⟨by rfl, ?_⟩) (by assumption) ?_
            rotate_left
            · intro w hSw; (try dsimp only at hSw); go_simp; (try with_reducible rfl)
            try simp only [Act.put, List.setIfInBounds_toArray, List.set_cons_zero, List.set_cons_succ]
            refine wpAnyH_take (i := 8) (oi := ⟨some 98, _, _, _, _, some (5, true)⟩) (v := (.int .i64 fy)) rfl (by kernel_rfl) (by kernel_rfl) (by kernel_rfl) (fun _ _ _ h => h) (Or.inl ⟨by rfl, ?_⟩) (by assumption) ?_
            · intro w hSw; (try dsimp only at hSw); have q0 : w.cell? ⟨u4.heap.size, 0, none⟩ = some (.int .i64 fy) := hSw.2 0 _ rfl; go_simp; (try simp)
            try simp only [Act.put, List.setIfInBounds_toArray, List.set_cons_zero, List.set_cons_succ]
            refine wpAnyH_take (i := 10) (oi := ⟨some 100, _, _, _, _, some (5, true)⟩) (v := .agg #[.int .i64 fy, .int .i64 lt, .int .i64 lp, .int .i64 lf, .bool lw, .bool lu, .bool lx, .bool lg, .bool ld]) rfl (by kernel_rfl) (by kernel_rfl) (by kernel_rfl) (fun _ _ _ h => h) (Or.inl ⟨by rfl, ?_⟩) (by assumption) ?_
            · intro w hSw; (try dsimp only at hSw); have q0 : w.cell? ⟨u4.heap.size, 0, none⟩ = some (.int .i64 fy) := hSw.2 0 _ rfl; have q1 : w.cell? ⟨u4.heap.size, 1, none⟩ = some (.int .i64 lt) := hSw.2 1 _ rfl; have q2 : w.cell? ⟨u4.heap.size, 2, none⟩ = some (.int .i64 lp) := hSw.2 2 _ rfl; have q3 : w.cell? ⟨u4.heap.size, 3, none⟩ = some (.int .i64 lf) := hSw.2 3 _ rfl; have q4 : w.cell? ⟨u4.heap.size, 4, none⟩ = some (.bool lw) := hSw.2 4 _ rfl; have q5 : w.cell? ⟨u4.heap.size, 5, none⟩ = some (.bool lu) := hSw.2 5 _ rfl; have q6 : w.cell? ⟨u4.heap.size, 6, none⟩ = some (.bool lx) := hSw.2 6 _ rfl; have q7 : w.cell? ⟨u4.heap.size, 7, none⟩ = some (.bool lg) := hSw.2 7 _ rfl; have q8 : w.cell? ⟨u4.heap.size, 8, none⟩ = some (.bool ld) := hSw.2 8 _ rfl; go_simp; (try simp)
            try simp only [Act.put, List.setIfInBounds_toArray, List.set_cons_zero, List.set_cons_succ]
            refine wpAnyH_ready (rs := [9]) (by kernel_rfl) (by simp) ?_
            refine AllReadyH.cons (o := ⟨some 99, _, _, _, _, some (5, true)⟩) rfl (fun K hK => ?_) AllReadyH.nil
            go_simp
            go_wp2_with (go_at_call 24; refine (TC3.out _).mono ?_; rintro e v1 ⟨rfl, hb⟩)
            have B1 : Hid (Own w v1 w.heap.size T2) := BU.out.grow hb
            have R1 : Hid (IsRl v1 (w.heap.size + 1) p1 (rowT T2 16)) := RU.out.below hb
            have C1 : Hid ((∀ j x, ([.bool lv, .int .i64 lt, .int .i64 lp, .int .i64 lf, .bool lw, .bool lu, .bool lx, .bool lg, .bool ld] : List Value)[j]? = some x → v1.cell? ⟨u3.heap.size, j, none⟩ = some x) ∧ (∀ j x, ([.int .i64 fy, .int .i64 lt, .int .i64 lp, .int .i64 lf, .bool lw, .bool lu, .bool lx, .bool lg, .bool ld] : List Value)[j]? = some x → v1.cell? ⟨u4.heap.size, j, none⟩ = some x)) := ⟨fun j x hx => (hb.cell (p := ⟨u3.heap.size, j, none⟩) LU.out.1).trans (CU.out.1 j x hx), fun j x hx => (hb.cell (p := ⟨u4.heap.size, j, none⟩) LU.out.2).trans (CU.out.2 j x hx)⟩
            clear hb hHeld BU RU CU LU
            refine hK.out _ _ C1.out (fun hHeld => ?_)
            clear hK K
            try simp only [Act.put, List.setIfInBounds_toArray, List.set_cons_zero, List.set_cons_succ]
            refine wpAnyH_take (i := 11) (oi := ⟨some 101, _, _, _, _, some (5, true)⟩) (v := .bool false) rfl (by kernel_rfl) (by kernel_rfl) (by kernel_rfl) (fun _ _ _ h => h) (Or.inl ⟨by rfl, ?_⟩) (by assumption) ?_
            · intro w hSw; (try dsimp only at hSw); go_simp; (try simp); (try (simp only [IntKind.wrap_i64]; omega))
            try simp only [Act.put, List.setIfInBounds_toArray, List.set_cons_zero, List.set_cons_succ]
            refine wpAnyH_take (i := 12) (oi := ⟨some 102, _, _, _, _, some (3, false)⟩) (v := ?_) rfl (by kernel_rfl) (by kernel_rfl) (by kernel_rfl) (fun _ _ _ h => h) (Or.inl ⟨by rfl, ?_⟩) (by assumption) ?_
            rotate_left
            · intro w hSw; (try dsimp only at hSw); go_simp; (try with_reducible rfl)
            try simp only [Act.put, List.setIfInBounds_toArray, List.set_cons_zero, List.set_cons_succ]
            refine wpAnyH_take (i := 13) (oi := ⟨some 103, _, _, _, _, none⟩) (v := ?_) rfl (by kernel_rfl) (by kernel_rfl) (by kernel_rfl) (fun _ _ _ h => h) (Or.inl ⟨by rfl, ?_⟩) (by assumption) ?_
            rotate_left
            · intro w hSw; (try dsimp only at hSw); go_simp; (try with_reducible rfl)
            try simp only [Act.put, List.setIfInBounds_toArray, List.set_cons_zero, List.set_cons_succ]
            refine wpAnyH_take (i := 14) (oi := ⟨some 104, _, _, _, _, none⟩) (v := ?_) rfl (by kernel_rfl) (by kernel_rfl) (by kernel_rfl) (fun _ _ _ h => h) (Or.inl ⟨by rfl, ?_⟩) (by assumption) ?_
            rotate_left
            · intro w hSw; (try dsimp only at hSw); go_simp; (try with_reducible rfl)
            try simp only [Act.put, List.setIfInBounds_toArray, List.set_cons_zero, List.set_cons_succ]
            refine wpAnyH_take (i := 15) (oi := ⟨some 105, _, _, _, _, some (14, false)⟩) (v := ?_) rfl (by kernel_rfl) (by kernel_rfl) (by kernel_rfl) (fun _ _ _ h => h) (Or.inl ⟨by rfl, ?_⟩) (by assumption) ?_
            rotate_left
            · intro w hSw; (try dsimp only at hSw); go_simp; (try with_reducible rfl)
            try simp only [Act.put, List.setIfInBounds_toArray, List.set_cons_zero, List.set_cons_succ]
            refine wpAnyH_take (i := 16) (oi := ⟨some 106, _, _, _, _, some (14, false)⟩) (v := ?_) rfl (by kernel_rfl) (by kernel_rfl) (by kernel_rfl) (fun _ _ _ h => h) (Or.inl ⟨by rfl, ?_⟩) (by assumption) ?_
            rotate_left
            · intro w hSw; (try dsimp only at hSw); go_simp; (try with_reducible rfl)
            try simp only [Act.put, List.setIfInBounds_toArray, List.set_cons_zero, List.set_cons_succ]
            refine wpAnyH_take (i := 17) (oi := ⟨some 107, _, _, _, _, some (14, false)⟩) (v := ?_) rfl (by kernel_rfl) (by kernel_rfl) (by kernel_rfl) (fun _ _ _ h => h) (Or.inl ⟨by rfl, ?_⟩) (by assumption) ?_
            rotate_left
            · intro w hSw; (try dsimp only at hSw); go_simp; (try with_reducible rfl)
            try simp only [Act.put, List.setIfInBounds_toArray, List.set_cons_zero, List.set_cons_succ]
            refine wpAnyH_take (i := 18) (oi := ⟨some 108, _, _, _, _, some (17, true)⟩) (v := undef) rfl (by kernel_rfl) (by kernel_rfl) (by kernel_rfl) (fun _ _ _ h => h) (Or.inr ⟨by rfl, rfl⟩) (by assumption) ?_
            try simp only [Act.put, List.setIfInBounds_toArray, List.set_cons_zero, List.set_cons_succ]
            refine wpAnyH_take (i := 19) (oi := ⟨some 109, _, _, _, _, some (17, true)⟩) (v := undef) rfl (by kernel_rfl) (by kernel_rfl) (by kernel_rfl) (fun _ _ _ h => h) (Or.inr ⟨by rfl, rfl⟩) (by assumption) ?_
            try simp only [Act.put, List.setIfInBounds_toArray, List.set_cons_zero, List.set_cons_succ]
            refine wpAnyH_take (i := 20) (oi := ⟨some 110, _, _, _, _, some (17, true)⟩) (v := undef) rfl (by kernel_rfl) (by kernel_rfl) (by kernel_rfl) (fun _ _ _ h => h) (Or.inr ⟨by rfl, rfl⟩) (by assumption) ?_
            try simp only [Act.put, List.setIfInBounds_toArray, List.set_cons_zero, List.set_cons_succ]
            refine wpAnyH_take (i := 21) (oi := ⟨some 111, _, _, _, _, some (14, false)⟩) (v := ?_) rfl (by kernel_rfl) (by kernel_rfl) (by kernel_rfl) (fun _ _ _ h => h) (Or.inl ⟨by rfl, ?_⟩) (by assumption) ?_
            rotate_left
            · intro w hSw; (try dsimp only at hSw); go_simp; (try with_reducible rfl)
            try simp only [Act.put, List.setIfInBounds_toArray, List.set_cons_zero, List.set_cons_succ]
            refine wpAnyH_take (i := 22) (oi := ⟨some 112, _, _, _, _, none⟩) (v := ?_) rfl (by kernel_rfl) (by kernel_rfl) (by kernel_rfl) (fun _ _ _ h => h) (Or.inl ⟨by rfl, ?_⟩) (by assumption) ?_
            rotate_left
            · intro w hSw; (try dsimp only at hSw); go_simp; (try with_reducible rfl)
            try simp only [Act.put, List.setIfInBounds_toArray, List.set_cons_zero, List.set_cons_succ]
            clear hHeld C1
            refine wpAnyH_done (by kernel_rfl) ?_ _
            refine NoPanic.normal ?_
            go_wp2_with fail
            go_roundw
            case rel => exact ⟨k + 1, T2, p1, c1, by omega, by omega, by rw [RLN.out, HNL.out], by go_num, B1, G1, R1⟩
            case measure => simp [intOf]; omega
          · subst e1 e2
            simp only [Ln.zero, Rl.zero] at RF4 FC3
            go_wp2_with fail
            refine (FC3.out _ hM3.out.1).mono ?_
            rintro e u3 ⟨rfl, hb⟩
            have M3 : Hid (Own w u3 w.heap.size T2) := hM3.out.grow hb
            have R3 : Hid (IsRl u3 (w.heap.size + 1) p1 (rowT T2 16)) := hR3.out.below hb
            clear hb hM3 hR3
            go_wp2_with fail
            refine (RF4.out _ (R3.out.below (Go.Joins.below_alloc1 _ _))).mono ?_
            rintro e u4 ⟨rfl, hb⟩
            have M4 : Hid (Own w u4 w.heap.size T2) := (M3.out.grow (Go.Joins.below_alloc1 _ _)).grow hb
            have R4 : Hid (IsRl u4 (w.heap.size + 1) p1 (rowT T2 16)) := (R3.out.below (Go.Joins.below_alloc1 _ _)).below hb
            have x0 : u4.cell? ⟨u3.heap.size, 0, none⟩ = some (.bool false) := (hb.cell (p := ⟨u3.heap.size, 0, none⟩) (by simp)).trans (by simp)
            have x1 : u4.cell? ⟨u3.heap.size, 1, none⟩ = some (.int .i64 0) := (hb.cell (p := ⟨u3.heap.size, 1, none⟩) (by simp)).trans (by simp)
            have x2 : u4.cell? ⟨u3.heap.size, 2, none⟩ = some (.int .i64 0) := (hb.cell (p := ⟨u3.heap.size, 2, none⟩) (by simp)).trans (by simp)
            have x3 : u4.cell? ⟨u3.heap.size, 3, none⟩ = some (.int .i64 0) := (hb.cell (p := ⟨u3.heap.size, 3, none⟩) (by simp)).trans (by simp)
            have x4 : u4.cell? ⟨u3.heap.size, 4, none⟩ = some (.bool false) := (hb.cell (p := ⟨u3.heap.size, 4, none⟩) (by simp)).trans (by simp)
            have x5 : u4.cell? ⟨u3.heap.size, 5, none⟩ = some (.bool false) := (hb.cell (p := ⟨u3.heap.size, 5, none⟩) (by simp)).trans (by simp)
            have x6 : u4.cell? ⟨u3.heap.size, 6, none⟩ = some (.bool false) := (hb.cell (p := ⟨u3.heap.size, 6, none⟩) (by simp)).trans (by simp)
            have x7 : u4.cell? ⟨u3.heap.size, 7, none⟩ = some (.bool false) := (hb.cell (p := ⟨u3.heap.size, 7, none⟩) (by simp)).trans (by simp)
            have x8 : u4.cell? ⟨u3.heap.size, 8, none⟩ = some (.bool false) := (hb.cell (p := ⟨u3.heap.size, 8, none⟩) (by simp)).trans (by simp)
            have l4 : u3.heap.size < u4.heap.size := Nat.lt_of_lt_of_le (by simp) hb.size
            clear hb M3 R3
            go_wp2_with fail
            go_quiet (fail)
            go_wp2_with fail
            go_roundw
            case rel => exact ⟨k + 1, T2, p1, c1, by omega, by omega, by rw [RLN.out, HNL.out], by go_num, own_drewN (M4.out.grow (Go.Joins.below_alloc1 _ _)), G1, (R4.out.below (Go.Joins.below_alloc1 _ _) : IsRl _ _ _ _)⟩
            case measure => simp [intOf]; omega
    · have hQ : (k < n0 ∧ ¬ k < 60) ∨ ¬ k < n0 := by omega
      clear hlt DO HA LC FC RFC TC
      rcases hQ with ⟨hq, hq2⟩ | hq
      · have hd : decide ((k : Int) < (n0 : Int)) = true := by simp; omega
        have hd2 : decide ((k : Int) < 60) = false := by simp; omega
        go_wp2_with fail
        go_ret
        exact ⟨rfl, hM.out.2.1⟩
      · have hd : decide ((k : Int) < (n0 : Int)) = false := by simp; omega
        go_wp2_with fail
        go_ret
        exact ⟨rfl, hM.out.2.1⟩

theorem own : ownKnob Try.prog.godebug = none := by kernel_rfl
theorem laidOut : laidOutB Try.prog = true := by kernel_rfl
set_option maxRecDepth 100000 in
theorem lifted (os : Os) (started : os.Started) (H : Type) (enc : TypeId × Value → H) :
    ReturnsInHanded {} Try.checked os 4 .any (Rows.tlbPlaysSpec.pre6 enc Try.prog Try.f4 Rows.tlbPlaysRow.domain false) (Rows.tlbPlaysSpec.post enc Try.prog Try.f4 false true false false) := by
  refine returnsInHanded_of_change (C := Try.checked) own started (by kernel_rfl) Try.func4
    (ChangeSpec.witness6 (enc := enc) (C := Try.checked) false ⟨#[], #[.slice none 0 0, .int .i64 0, .int .i64 0], []⟩ 8 (by kernel_rfl) (by kernel_rfl) (by kernel_rfl) (by kernel_rfl)) ?_
  intro W base args ds gs before hval0 hW hcnd _
  have hval : ∀ (j : Nat) t v, Try.f4.params[j]? = some t → args[j]? = some v → Value.okWide Try.prog W .any base t v := hval0
  have hW' := hW
  obtain ⟨p, q, hA0, hV, hbef, hfz, hnd⟩ := hW
  have hA : DataW.TrodAll enc Try.prog W 0 (fun _ => true) true Try.f4.params.toList args.toList ds p := hA0
  have hAk := hA
  have hlt : ∀ x ∈ p, x.block < W.heap.size := fun x hx => hW'.lt x (by rw [hbef]; exact List.mem_append_left _ hx)
  rw [Try.params4] at hA hval
  obtain ⟨v0, vs0, d0, ds0, p0, q0, hargs, rfl, hp0, h0, r0⟩ := trodAll_cons hA
  obtain ⟨v1, vs1, d1, ds1, p1, q1, rfl, rfl, hp1, h1, r1⟩ := trodAll_cons r0
  obtain ⟨v2, vs2, d2, ds2, p2, q2, rfl, rfl, hp2, h2, r2⟩ := trodAll_cons r1
  obtain ⟨rfl, rfl, hpz⟩ := trodAll_nil r2
  obtain rfl : args = #[v0, v1, v2] := by cases args; simp_all
  obtain ⟨rfl, rfl⟩ := trodVars_none hV
  obtain ⟨p0, n0, c0, K0, A0, C0, L0, rfl, m0, H0⟩ := open_acts (hval 0 50 v0 rfl rfl) h0
  obtain ⟨a1, rfl, _, _, w1⟩ := open_int Try.underlying3 (hval 1 3 v1 rfl rfl) h1
  obtain ⟨a2, rfl, _, _, w2⟩ := open_int Try.underlying3 (hval 2 3 v2 rfl rfl) h2
  clear hA0 hval0
  refine (walk p0 n0 c0 K0 A0 C0 L0 m0 a1 w1 a2 w2 W H0).mono fun e W' ⟨he, hg⟩ => ?_
  subst he
  exact ⟨_, rfl, ⟨_, _, _, [], p, [], hW', (trodAll_cons_mk (shut_bool Try.underlying4 _) trodAll_mk0), args_stay laidOut hg (by kernel_rfl) hAk hlt, rfl, hg.frame _, fun h => by cases h⟩⟩

theorem over : Rows.tlbPlaysRow.holds Try.pinned (OpenSpec.ofChange Rows.tlbPlaysSpec) :=
  OpenClaim.holds_of_wide 4 Try.f4 rfl rfl rfl rfl rfl rfl rfl ⟨rfl, rfl, rfl, rfl, rfl⟩ rfl rfl rfl rfl rfl (by kernel_rfl) Try.func4 (by kernel_rfl)
    (of_decide_eq_true (by kernel_rfl)) (by unfold Func.isWrapper; first | (rw [if_pos (by decide +kernel)]; kernel_rfl) | (rw [if_neg (by decide +kernel)]; exact ⟨rfl, rfl⟩))
    (fun os started H enc _ => lifted os started H enc)

theorem proved : Rows.TlbPlaysSaid :=
  over
#print axioms proved
end Go.Proofs.Ytihedjlcjkbjfaa.tlbPlays
