/- Grants: the document's Accept. -/
import Derived.Test.YtenfdcjnfgjilaaXF
import Derived.Deep.DeepCutAuto
namespace Go.Proofs.Ytenfdcjnfgjilaa
open Go.ChangeShapes Go.WideShapes Go.ChangeAt Go.RowKit Go.Maps
set_option linter.unusedSimpArgs false
set_option linter.unusedVariables false
set_option maxRecDepth 8000
set_option maxRecDepth 8000
set_option maxRecDepth 8000

set_option maxHeartbeats 8000000 in
theorem racc_row (T : Nat → Gr) (base : Nat) (q : Option Addr) (c : Nat) (i o a : Int) (w : World) (h : IsRq w base q (rowG T 256)) (hbw : base ≤ w.heap.size) :
    Calls Try.prog 23 #[.slice q (rowG T 256).length c, .int .i64 i, .int .i64 o, .int .i64 a] w fun e w' => (∃ p' c', e = .returned (.tuple #[.slice p' (rowG (accT T i o a) 256).length c', .int .i64 (accE T i o a)]) ∧ IsRq w' base p' (rowG (accT T i o a) 256)) ∧ Below w.heap.size w w' := by
  have HI : Hid (IsRq w base q (rowG T 256)) := h
  have FI := fun W h => rfind_row T base q c i W h
  clear h
  have PA : Hid (∀ W : World, Calls Try.prog 30 #[.int .i64 a] W fun e w' => e = .returned (.bool (isPage a)) ∧ w' = W) := fun W => rpage_any a W
  by_cases z : (getG T i).is = false
  · obtain ⟨e1, e2⟩ := acc5 (a := a) (o := o) (Or.inl z)
    rw [e1, e2]
    rw [findV_no z, z] at FI
    clear e1 e2 z
    obtain ⟨n0, hn0⟩ : ∃ n0, (rowG T 256).length = n0 := ⟨_, rfl⟩
    rw [hn0] at FI  ⊢
    clear hn0
    have FI : Hid _ := FI
    go_enter Try.func23, Try.ntmps23
    go_wp2_with fail
    refine (FI.out _ HI.out).mono ?_
    rintro e u1 ⟨rfl, hb1⟩
    have B1 : Hid (Below w.heap.size w u1) := hb1
    clear hb1
    go_wp2_with fail
    go_returns
    exact ⟨⟨q, c, rfl, HI.out.below (below_new B1.out _)⟩, below_new B1.out _⟩
  replace z : (getG T i).is = true := by simpa using z
  rw [findV_is z, z] at FI
  by_cases c1 : (getG T i).dst = o
  · by_cases d : (getG T i).tk = true
    · obtain ⟨e1, e2⟩ := acc11 (a := a) z c1 d
      rw [e1, e2]
      clear e1 e2 z
      generalize getG T i = l at FI c1 d
      obtain ⟨gf, gp, gd, gw, gt, ga⟩ := l
      simp only [tellG] at c1 d FI
      subst d
      have cb : (gd == o) = true := by simp [c1]
      have cn : (gd != o) = false := by simp [c1]
      clear c1
      obtain ⟨n0, hn0⟩ : ∃ n0, (rowG T 256).length = n0 := ⟨_, rfl⟩
      rw [hn0] at FI  ⊢
      clear hn0
      have FI : Hid _ := FI
      go_enter Try.func23, Try.ntmps23
      go_wp2_with fail
      refine (FI.out _ HI.out).mono ?_
      rintro e u1 ⟨rfl, hb1⟩
      have B1 : Hid (Below w.heap.size w u1) := hb1
      clear hb1
      go_wp2_with fail
      go_returns
      exact ⟨⟨q, c, rfl, HI.out.below (below_new B1.out _)⟩, below_new B1.out _⟩
    · replace d : (getG T i).tk = false := by simpa using d
      by_cases g : isPage a = true
      · obtain ⟨e1, e2⟩ := acc0 (a := a) z c1 d g
        rw [e1, e2]
        rw [g] at PA
        clear e1 e2 g
        obtain ⟨k, rfl, hk, hg⟩ := is_in z
        have RP := fun W h => rput_row T base q c k ((T k).take a) hk (show (T k).is = true by rw [← hg]; exact z) W h
        rw [Int.toNat_natCast]
        rw [hg] at FI c1 d
        clear z hg
        generalize hR : rowG (putT T k ((T k).take a)) 256 = R2 at RP ⊢
        clear hR
        obtain ⟨l, hl⟩ : ∃ l, T k = l := ⟨_, rfl⟩
        rw [hl] at FI c1 d RP
        clear hl
        obtain ⟨gf, gp, gd, gw, gt, ga⟩ := l
        simp only [tellG, Gr.take] at c1 d FI RP
        subst d
        have cb : (gd == o) = true := by simp [c1]
        have cn : (gd != o) = false := by simp [c1]
        clear c1
        obtain ⟨n0, hn0⟩ : ∃ n0, (rowG T 256).length = n0 := ⟨_, rfl⟩
        rw [hn0] at FI RP ⊢
        clear hn0
        have FI : Hid _ := FI
        have RP : Hid _ := RP
        go_enter Try.func23, Try.ntmps23
        go_wp2_with fail
        refine (FI.out _ HI.out).mono ?_
        rintro e u1 ⟨rfl, hb1⟩
        have B1 : Hid (Below w.heap.size w u1) := hb1
        clear hb1
        go_wp2_with fail
        refine (PA.out _).mono ?_
        rintro e u2 ⟨rfl, hu⟩
        have B2 : Hid (Below w.heap.size w u2) := by rw [hu]; exact below_new B1.out _
        have Y2 : Hid (u2.heap[u1.heap.size]? = some (.cells #[.int .i64 k, .int .i64 gf, .int .i64 gp, .int .i64 gd, .bool gw, .bool false, .int .i64 ga] 41 (0, 0))) := by rw [hu]; exact own1 u1 _
        have ly2 : u1.heap.size < u2.heap.size := (Array.getElem?_eq_some_iff.1 Y2.out).1
        clear hu PA FI
        have B1s : w.heap.size ≤ u1.heap.size := B1.out.size
        generalize u1.heap.size = yb at Y2 ly2 B1s ⊢
        have y0 : u2.cell? ⟨yb, 0, none⟩ = some (.int .i64 k) := cells9 Y2.out 0 _ rfl
        have y1 : u2.cell? ⟨yb, 1, none⟩ = some (.int .i64 gf) := cells9 Y2.out 1 _ rfl
        have y2 : u2.cell? ⟨yb, 2, none⟩ = some (.int .i64 gp) := cells9 Y2.out 2 _ rfl
        have y3 : u2.cell? ⟨yb, 3, none⟩ = some (.int .i64 gd) := cells9 Y2.out 3 _ rfl
        have y4 : u2.cell? ⟨yb, 4, none⟩ = some (.bool gw) := cells9 Y2.out 4 _ rfl
        have y5 : u2.cell? ⟨yb, 5, none⟩ = some (.bool false) := cells9 Y2.out 5 _ rfl
        have y6 : u2.cell? ⟨yb, 6, none⟩ = some (.int .i64 ga) := cells9 Y2.out 6 _ rfl
        have z5 : u2.frozen? ⟨yb, 5, none⟩ = false := Go.Joins.unfrozen_of_block Y2.out 5
        have z6 : u2.frozen? ⟨yb, 6, none⟩ = false := Go.Joins.unfrozen_of_block Y2.out 6
        go_wp2_with fail
        have B3 : Hid (Below w.heap.size w ((u2.setCell ⟨yb, 5, none⟩ (.bool true)).setCell ⟨yb, 6, none⟩ (.int .i64 a))) := (B2.out.setCell (p := ⟨yb, 5, none⟩) B1s _).setCell (p := ⟨yb, 6, none⟩) B1s _
        refine (RP.out _ (HI.out.below B3.out)).mono ?_
        rintro e u3 ⟨⟨p', c', rfl, hI'⟩, hb3⟩
        have B4 : Hid (Below w.heap.size w u3) := below_then B3.out hb3
        have I4 : Hid (IsRq u3 base p' R2) := hI'.weak (Nat.le_trans hbw B3.out.size)
        clear hb3 hI' B3
        go_wp2_with fail
        go_returns
        exact ⟨⟨_, _, rfl, I4.out⟩, B4.out⟩
      · replace g : isPage a = false := by simpa using g
        obtain ⟨e1, e2⟩ := acc1 (a := a) z c1 d g
        rw [e1, e2]
        rw [g] at PA
        clear e1 e2 z g
        generalize getG T i = l at FI c1 d
        obtain ⟨gf, gp, gd, gw, gt, ga⟩ := l
        simp only [tellG] at c1 d FI
        subst d
        have cb : (gd == o) = true := by simp [c1]
        have cn : (gd != o) = false := by simp [c1]
        clear c1
        obtain ⟨n0, hn0⟩ : ∃ n0, (rowG T 256).length = n0 := ⟨_, rfl⟩
        rw [hn0] at FI  ⊢
        clear hn0
        have FI : Hid _ := FI
        go_enter Try.func23, Try.ntmps23
        go_wp2_with fail
        refine (FI.out _ HI.out).mono ?_
        rintro e u1 ⟨rfl, hb1⟩
        have B1 : Hid (Below w.heap.size w u1) := hb1
        clear hb1
        go_wp2_with fail
        refine (PA.out _).mono ?_
        rintro e u2 ⟨rfl, hu⟩
        have B2 : Hid (Below w.heap.size w u2) := by rw [hu]; exact below_new B1.out _
        clear hu
        go_wp2_with fail
        go_returns
        exact ⟨⟨q, c, rfl, HI.out.below B2.out⟩, B2.out⟩
  · obtain ⟨e1, e2⟩ := acc5 (a := a) (o := o) (Or.inr c1)
    rw [e1, e2]
    clear e1 e2 z
    generalize getG T i = l at FI c1
    obtain ⟨gf, gp, gd, gw, gt, ga⟩ := l
    simp only [tellG] at c1 FI
    have cb : (gd == o) = false := by simp [c1]
    have cn : (gd != o) = true := by simp [c1]
    obtain ⟨n0, hn0⟩ : ∃ n0, (rowG T 256).length = n0 := ⟨_, rfl⟩
    rw [hn0] at FI  ⊢
    clear hn0
    have FI : Hid _ := FI
    go_enter Try.func23, Try.ntmps23
    go_wp2_with fail
    refine (FI.out _ HI.out).mono ?_
    rintro e u1 ⟨rfl, hb1⟩
    have B1 : Hid (Below w.heap.size w u1) := hb1
    clear hb1
    go_wp2_with fail
    go_returns
    exact ⟨⟨q, c, rfl, HI.out.below (below_new B1.out _)⟩, below_new B1.out _⟩
end Go.Proofs.Ytenfdcjnfgjilaa
