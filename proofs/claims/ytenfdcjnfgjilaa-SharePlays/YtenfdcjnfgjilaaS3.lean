/- Grants: Accept. -/
import Derived.Test.YtenfdcjnfgjilaaSA
namespace Go.Proofs.Ytenfdcjnfgjilaa
open Go.ChangeShapes Go.WideShapes Go.ChangeAt Go.RowKit Go.Maps
set_option linter.unusedSimpArgs false
set_option linter.unusedVariables false
set_option maxRecDepth 8000
set_option maxRecDepth 8000
set_option maxRecDepth 8000

set_option maxHeartbeats 2000000 in
theorem accept_any (b : Nat) (T : Nat → Gr) (i o a : Int) (w : World) (h : IsTab w b T) :
    Calls Try.prog 20 #[.pointer (some ⟨b, 0, none⟩), .int .i64 i, .int .i64 o, .int .i64 a] w fun e w' => e = .returned (.int .i64 (accE T i o a)) ∧ IsTab w' b (accT T i o a) ∧ w.grownBy w' (some b) := by
  have G : Hid (∀ W : World, IsTab W b T → Calls Try.prog 14 #[.pointer (some ⟨b, 0, none⟩), .int .i64 i] W fun e w' => e = .returned (.tuple #[(getG T i).val, .bool (getG T i).is]) ∧ Below W.heap.size W w') := fun W h => get_any b T i W h
  have HT : Hid (IsTab w b T) := h
  have hb := h.2.2
  have PA : Hid (∀ W : World, Calls Try.prog 29 #[.int .i64 a] W fun e w' => e = .returned (.bool (isPage a)) ∧ w' = W) := fun W => ownPage_any a W
  by_cases z : (getG T i).is = false
  · obtain ⟨e1, e2⟩ := acc5 (a := a) (o := o) (Or.inl z)
    rw [e1, e2]
    rw [z] at G
    clear e1 e2 h z
    generalize getG T i = l at G
    obtain ⟨lf, lp, ld, lw, lt, la⟩ := l
    go_enter Try.func20, Try.ntmps20
    go_wp2_with fail
    refine (G.out _ (HT.out)).mono ?_
    rintro e u1 ⟨rfl, hb1⟩
    have B1 : Hid (Below w.heap.size w u1) := hb1
    skip
    clear hb1
    go_wp2_with fail
    go_ret
    exact ⟨rfl, HT.out.below (below_new B1.out _), grown_of_below (below_new B1.out _) _⟩
  replace z : (getG T i).is = true := by simpa using z
  rw [z] at G
  by_cases c : (getG T i).dst = o
  · by_cases d : (getG T i).tk = true
    · obtain ⟨e1, e2⟩ := acc11 (a := a) z c d
      rw [e1, e2]
      clear e1 e2 h z
      generalize getG T i = l at G c d
      obtain ⟨lf, lp, ld, lw, lt, la⟩ := l
      simp only at c d
      subst d
      have cb : (ld == o) = true := by simp [c]
      have cn : (ld != o) = false := by simp [c]
      clear c
      go_enter Try.func20, Try.ntmps20
      go_wp2_with fail
      refine (G.out _ (HT.out)).mono ?_
      rintro e u1 ⟨rfl, hb1⟩
      have B1 : Hid (Below w.heap.size w u1) := hb1
      skip
      clear hb1
      go_wp2_with fail
      go_ret
      exact ⟨rfl, HT.out.below (below_new B1.out _), grown_of_below (below_new B1.out _) _⟩
    · replace d : (getG T i).tk = false := by simpa using d
      by_cases g : isPage a = true
      · obtain ⟨e1, e2⟩ := acc0 (a := a) z c d g
        rw [e1, e2]
        rw [g] at PA
        clear e1 e2 g
        obtain ⟨k, rfl, hk, hg⟩ := is_in z
        rw [Int.toNat_natCast]
        rw [hg] at G c d
        have k0 : (0 : Int) ≤ (k : Int) := by omega
        have k6 : (k : Int) < 256 := by omega
        clear h z hg
        obtain ⟨l, hl⟩ : ∃ l, T k = l := ⟨_, rfl⟩
        have HL : Hid (T k = l) := hl
        rw [hl] at G c d ⊢
        clear hl
        obtain ⟨lf, lp, ld, lw, lt, la⟩ := l
        simp only at c d
        subst d
        have cb : (ld == o) = true := by simp [c]
        have cn : (ld != o) = false := by simp [c]
        clear c
        go_enter Try.func20, Try.ntmps20
        go_wp2_with fail
        refine (G.out _ (HT.out)).mono ?_
        rintro e u1 ⟨rfl, hb1⟩
        have B1 : Hid (Below w.heap.size w u1) := hb1
        skip
        clear hb1
        have T1 : Hid (IsTab u1 b T) := HT.out.below B1.out
        have lb : b < u1.heap.size := Nat.lt_of_lt_of_le hb B1.out.size
        go_wp2_with fail
        refine (PA.out _).mono ?_
        rintro e u2 ⟨rfl, hu⟩
        have T2 : Hid (IsTab u2 b T) := by rw [hu]; exact T1.out.below (Go.Joins.below_alloc1 _ _)
        have B2 : Hid (Below w.heap.size w u2) := by rw [hu]; exact below_new B1.out _
        have G2 : Hid (w.grownBy u2 (some b)) := grown_of_below B2.out _
        have x0 : u2.cell? ⟨u1.heap.size, 0, none⟩ = some (.int .i64 lf) := by rw [hu]; simp
        have x1 : u2.cell? ⟨u1.heap.size, 1, none⟩ = some (.int .i64 lp) := by rw [hu]; simp
        have x2 : u2.cell? ⟨u1.heap.size, 2, none⟩ = some (.int .i64 ld) := by rw [hu]; simp
        have x3 : u2.cell? ⟨u1.heap.size, 3, none⟩ = some (.bool lw) := by rw [hu]; simp
        have x4 : u2.cell? ⟨u1.heap.size, 4, none⟩ = some (.bool false) := by rw [hu]; simp
        have x5 : u2.cell? ⟨u1.heap.size, 5, none⟩ = some (.int .i64 la) := by rw [hu]; simp
        have y4 : u2.frozen? ⟨u1.heap.size, 4, none⟩ = false := by rw [hu]; simp
        have y5 : u2.frozen? ⟨u1.heap.size, 5, none⟩ = false := by rw [hu]; simp
        have lx : u1.heap.size < u2.heap.size := by rw [hu]; simp
        clear hu T1 PA G
        have c0 : u2.cell? ⟨b, k * 6, none⟩ = some (.int .i64 lf) := T2.out.cell (k) (by omega) 0 _ (by rw [HL.out]; rfl) _ (by omega)
        have c1 : u2.cell? ⟨b, k * 6 + 1, none⟩ = some (.int .i64 lp) := T2.out.cell (k) (by omega) 1 _ (by rw [HL.out]; rfl) _ (by omega)
        have c2 : u2.cell? ⟨b, k * 6 + 2, none⟩ = some (.int .i64 ld) := T2.out.cell (k) (by omega) 2 _ (by rw [HL.out]; rfl) _ (by omega)
        have c3 : u2.cell? ⟨b, k * 6 + 3, none⟩ = some (.bool lw) := T2.out.cell (k) (by omega) 3 _ (by rw [HL.out]; rfl) _ (by omega)
        have c4 : u2.cell? ⟨b, k * 6 + 4, none⟩ = some (.bool false) := T2.out.cell (k) (by omega) 4 _ (by rw [HL.out]; rfl) _ (by omega)
        have c5 : u2.cell? ⟨b, k * 6 + 5, none⟩ = some (.int .i64 la) := T2.out.cell (k) (by omega) 5 _ (by rw [HL.out]; rfl) _ (by omega)
        have g0 : u2.frozen? ⟨b, k * 6, none⟩ = false := T2.out.unfrozen _ (by omega)
        have g1 : u2.frozen? ⟨b, k * 6 + 1, none⟩ = false := T2.out.unfrozen _ (by omega)
        have g2 : u2.frozen? ⟨b, k * 6 + 2, none⟩ = false := T2.out.unfrozen _ (by omega)
        have g3 : u2.frozen? ⟨b, k * 6 + 3, none⟩ = false := T2.out.unfrozen _ (by omega)
        have g4 : u2.frozen? ⟨b, k * 6 + 4, none⟩ = false := T2.out.unfrozen _ (by omega)
        have g5 : u2.frozen? ⟨b, k * 6 + 5, none⟩ = false := T2.out.unfrozen _ (by omega)
        go_wp2_with fail
        go_region
        all_goals go_wp2_with fail
        all_goals go_ret
        all_goals exact ⟨rfl, acc_tab T2.out hk HL.out lb, acc_grown G2.out lb B1.out.size⟩
      · replace g : isPage a = false := by simpa using g
        obtain ⟨e1, e2⟩ := acc1 (a := a) z c d g
        rw [e1, e2]
        rw [g] at PA
        clear e1 e2 h z g
        generalize getG T i = l at G c d
        obtain ⟨lf, lp, ld, lw, lt, la⟩ := l
        simp only at c d
        subst d
        have cb : (ld == o) = true := by simp [c]
        have cn : (ld != o) = false := by simp [c]
        clear c
        go_enter Try.func20, Try.ntmps20
        go_wp2_with fail
        refine (G.out _ (HT.out)).mono ?_
        rintro e u1 ⟨rfl, hb1⟩
        have B1 : Hid (Below w.heap.size w u1) := hb1
        skip
        clear hb1
        go_wp2_with fail
        refine (PA.out _).mono ?_
        rintro e u2 ⟨rfl, hu⟩
        have B2 : Hid (Below w.heap.size w u2) := by rw [hu]; exact below_new B1.out _
        clear hu
        go_wp2_with fail
        go_ret
        exact ⟨rfl, HT.out.below B2.out, grown_of_below B2.out _⟩
  · obtain ⟨e1, e2⟩ := acc5 (a := a) (o := o) (Or.inr c)
    rw [e1, e2]
    clear e1 e2 h z
    generalize getG T i = l at G c
    obtain ⟨lf, lp, ld, lw, lt, la⟩ := l
    simp only at c
    have cb : (ld == o) = false := by simp [c]
    have cn : (ld != o) = true := by simp [c]
    go_enter Try.func20, Try.ntmps20
    go_wp2_with fail
    refine (G.out _ (HT.out)).mono ?_
    rintro e u1 ⟨rfl, hb1⟩
    have B1 : Hid (Below w.heap.size w u1) := hb1
    skip
    clear hb1
    go_wp2_with fail
    go_ret
    exact ⟨rfl, HT.out.below (below_new B1.out _), grown_of_below (below_new B1.out _) _⟩
end Go.Proofs.Ytenfdcjnfgjilaa
