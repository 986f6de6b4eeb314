/- Grants: the document puts one to none; offers on none. -/
import Derived.Test.YtenfdcjnfgjilaaS7
namespace Go.Proofs.Ytenfdcjnfgjilaa
open Go.ChangeShapes Go.WideShapes Go.ChangeAt Go.RowKit Go.Maps
set_option linter.unusedSimpArgs false
set_option linter.unusedVariables false
set_option maxRecDepth 8000
set_option maxRecDepth 8000
set_option maxRecDepth 8000

theorem rg_info5 : (Try.prog.info? 41).map (fun i => (i.zero, i.size, i.bytes)) = some (some (.agg #[.int .i64 0, .int .i64 0, .int .i64 0, .int .i64 0, .bool false, .bool false, .int .i64 0]), 7, 48) := by kernel_rfl
theorem startrg (w : World) : (w.alloc (.cells #[] 41)).ownsRow w.heap.size 41 7 (.slice (some ⟨w.heap.size, 0, none⟩) 0 0) 0 [] := ⟨rfl, Or.inr ⟨w.heap.size, 0, #[], rfl, Nat.le_refl _, own1 w _, by simp, by simp, rfl, rfl⟩⟩
theorem own_size {w : World} {base e s : Nat} {v : Value} {n : Nat} {xs : List Value} (h : w.ownsRow base e s v n xs) : ∃ q c, v = .slice q n c := by
  obtain ⟨h1, h2 | ⟨g, cap, cur, e1, e2, e3⟩⟩ := h
  · exact ⟨none, 0, by rw [h2.1, h2.2]⟩
  · exact ⟨_, cap, e1⟩
set_option maxHeartbeats 2000000 in
theorem rput_nil (gi gf gp gd ga : Int) (gw gt : Bool) (w : World) : Calls Try.prog 31 #[.slice none 0 0, .agg #[.int .i64 gi, .int .i64 gf, .int .i64 gp, .int .i64 gd, .bool gw, .bool gt, .int .i64 ga]] w fun e w' => (∃ q c, e = .returned (.slice q 1 c)) ∧ Below w.heap.size w w' := by
  obtain ⟨i0, hi, hz0, hz1, hz2⟩ := info5 rg_info5
  have OW : Hid ((((w.alloc (.cells #[.int .i64 gi, .int .i64 gf, .int .i64 gp, .int .i64 gd, .bool gw, .bool gt, .int .i64 ga] 41)).alloc (.cells #[] 41)).alloc (.cells #[.int .i64 gi, .int .i64 gf, .int .i64 gp, .int .i64 gd, .bool gw, .bool gt, .int .i64 ga] 41)).ownsRow w.heap.size 41 7 (.slice (some ⟨w.heap.size + 1, 0, none⟩) 0 0) 0 []) := by
    have h := own_keep (own_weak (startrg (w.alloc (.cells #[.int .i64 gi, .int .i64 gf, .int .i64 gp, .int .i64 gd, .bool gw, .bool gt, .int .i64 ga] 41))) (by rw [World.size_alloc]; omega : w.heap.size ≤ _)) (Go.Joins.below_alloc1 _ (.cells #[.int .i64 gi, .int .i64 gf, .int .i64 gp, .int .i64 gd, .bool gw, .bool gt, .int .i64 ga] 41))
    rw [show (w.alloc (.cells #[.int .i64 gi, .int .i64 gf, .int .i64 gp, .int .i64 gd, .bool gw, .bool gt, .int .i64 ga] 41)).heap.size = w.heap.size + 1 from World.size_alloc _ _] at h
    exact h
  have NW : Hid (∀ j x, ([.int .i64 gi, .int .i64 gf, .int .i64 gp, .int .i64 gd, .bool gw, .bool gt, .int .i64 ga] : List Value)[j]? = some x → (((w.alloc (.cells #[.int .i64 gi, .int .i64 gf, .int .i64 gp, .int .i64 gd, .bool gw, .bool gt, .int .i64 ga] 41)).alloc (.cells #[] 41)).alloc (.cells #[.int .i64 gi, .int .i64 gf, .int .i64 gp, .int .i64 gd, .bool gw, .bool gt, .int .i64 ga] 41)).cell? ((⟨w.heap.size + 1 + 1, 0, none⟩ : Addr).add j) = some x) := by
    have h := new_cells ((w.alloc (.cells #[.int .i64 gi, .int .i64 gf, .int .i64 gp, .int .i64 gd, .bool gw, .bool gt, .int .i64 ga] 41)).alloc (.cells #[] 41)) #[.int .i64 gi, .int .i64 gf, .int .i64 gp, .int .i64 gd, .bool gw, .bool gt, .int .i64 ga] 41
    rw [show ((w.alloc (.cells #[.int .i64 gi, .int .i64 gf, .int .i64 gp, .int .i64 gd, .bool gw, .bool gt, .int .i64 ga] 41)).alloc (.cells #[] 41)).heap.size = w.heap.size + 1 + 1 from by rw [World.size_alloc, World.size_alloc]] at h
    exact h
  have ON : Hid (∀ x ∈ ([.int .i64 gi, .int .i64 gf, .int .i64 gp, .int .i64 gd, .bool gw, .bool gt, .int .i64 ga] : List Value), x.oneCell' = true) := by show ∀ x ∈ ([.int .i64 gi, .int .i64 gf, .int .i64 gp, .int .i64 gd, .bool gw, .bool gt, .int .i64 ga] : List Value), x.oneCell' = true; simp [Value.oneCell']
  have HZ : Hid (w.heap.size ≤ (((w.alloc (.cells #[.int .i64 gi, .int .i64 gf, .int .i64 gp, .int .i64 gd, .bool gw, .bool gt, .int .i64 ga] 41)).alloc (.cells #[] 41)).alloc (.cells #[.int .i64 gi, .int .i64 gf, .int .i64 gp, .int .i64 gd, .bool gw, .bool gt, .int .i64 ga] 41)).heap.size) := by show _ ≤ _; simp only [World.size_alloc]; omega
  have MX : Hid (0 + 1 ≤ maxLen) := by show _ ≤ _; unfold maxLen; omega
  have BY : Hid ((0 + 1) * 48 ≤ 140737488355328) := by show _ ≤ _; omega
  have BB : Hid (Below w.heap.size w (((w.alloc (.cells #[.int .i64 gi, .int .i64 gf, .int .i64 gp, .int .i64 gd, .bool gw, .bool gt, .int .i64 ga] 41)).alloc (.cells #[] 41)).alloc (.cells #[.int .i64 gi, .int .i64 gf, .int .i64 gp, .int .i64 gd, .bool gw, .bool gt, .int .i64 ga] 41))) := Go.Joins.below_alloc3 _ _ _ _
  go_enter Try.func31, Try.ntmps31
  go_wp2_with fail
  refine wp_loop_rounds 1 ?_
  rw [rounds_succ]
  go_wp2_with (at_builtin; refine wpList_append_own _ rfl _ _ 28 rfl w.heap.size 41 i0 (.agg #[.int .i64 0, .int .i64 0, .int .i64 0, .int .i64 0, .bool false, .bool false, .int .i64 0]) 7 48 Try.underlying28 hi hz0 hz1 hz2 rfl (by decide) (.slice (some ⟨w.heap.size + 1, 0, none⟩) 0 0) 0 [] rfl OW.out ⟨w.heap.size + 1 + 1, 0, none⟩ 1 1 ([.int .i64 gi, .int .i64 gf, .int .i64 gp, .int .i64 gd, .bool gw, .bool gt, .int .i64 ga] : List Value) rfl rfl NW.out ON.out MX.out BY.out HZ.out ?_; intro v1 a0 hown hg hnil; have O1 : Hid (a0.ownsRow w.heap.size 41 7 v1 (0 + 1) ([] ++ [.int .i64 gi, .int .i64 gf, .int .i64 gp, .int .i64 gd, .bool gw, .bool gt, .int .i64 ga])) := hown; have B1 : Hid (Below w.heap.size w a0) := below_grown BB.out OW.out hg; clear hown hg hnil OW NW ON HZ MX BY)
  go_wp2_with fail
  go_ret
  obtain ⟨q, c, rfl⟩ := own_size O1.out
  exact ⟨⟨q, c, rfl⟩, B1.out⟩
set_option maxHeartbeats 400000 in
theorem rpage_any (p : Int) (w : World) : Calls Try.prog 30 #[.int .i64 p] w fun e w' => e = .returned (.bool (isPage p)) ∧ w' = w := by
  unfold isPage
  by_cases c : 0 ≤ p
  · have e1 : decide (0 ≤ p) = true := by simp [c]
    go_enter Try.func30, Try.ntmps30
    go_wp2
    go_returns
    exact ⟨by simp [c], rfl⟩
  · have e1 : decide (0 ≤ p) = false := by simp [c]
    go_enter Try.func30, Try.ntmps30
    go_wp2
    go_returns
    exact ⟨by simp [c], rfl⟩
set_option maxHeartbeats 4000000 in
theorem roffer_nil (f p d : Int) (x : Bool) (w : World) : Calls Try.prog 22 #[.slice none 0 0, .int .i64 f, .int .i64 p, .int .i64 d, .bool x] w fun e w' => (∃ q n c z y, e = .returned (.tuple #[.slice q n c, .int .i64 z, .int .i64 y])) ∧ Below w.heap.size w w' := by
  have PP : Hid (∀ W : World, Calls Try.prog 30 #[.int .i64 p] W fun e w' => e = .returned (.bool (isPage p)) ∧ w' = W) := fun W => rpage_any p W
  have FN : Hid (∀ (i : Int) (w : World), Calls Try.prog 16 #[.slice none 0 0, .int .i64 i] w fun e w' => e = .returned (.tuple #[.agg #[.int .i64 0, .int .i64 0, .int .i64 0, .int .i64 0, .bool false, .bool false, .int .i64 0], .bool false]) ∧ Below w.heap.size w w') := rfind_nil
  have PU : Hid (∀ (gi gf gp gd ga : Int) (gw gt : Bool) (w : World), Calls Try.prog 31 #[.slice none 0 0, .agg #[.int .i64 gi, .int .i64 gf, .int .i64 gp, .int .i64 gd, .bool gw, .bool gt, .int .i64 ga]] w fun e w' => (∃ q c, e = .returned (.slice q 1 c)) ∧ Below w.heap.size w w') := rput_nil
  generalize isPage p = zp at PP
  by_cases a1 : f < 0
  · have e1 : decide (f < 0) = true := by simp [a1]
    go_enter Try.func22, Try.ntmps22
    go_wp2_with fail
    go_returns
    exact ⟨⟨_, _, _, _, _, rfl⟩, Below.refl _ _⟩
  have e1 : decide (f < 0) = false := by simp; omega
  by_cases a2 : 15 < f
  · have e2 : decide (15 < f) = true := by simp [a2]
    go_enter Try.func22, Try.ntmps22
    go_wp2_with fail
    go_returns
    exact ⟨⟨_, _, _, _, _, rfl⟩, Below.refl _ _⟩
  have e2 : decide (15 < f) = false := by simp; omega
  by_cases a3 : d < 0
  · have e3 : decide (d < 0) = true := by simp [a3]
    go_enter Try.func22, Try.ntmps22
    go_wp2_with fail
    go_returns
    exact ⟨⟨_, _, _, _, _, rfl⟩, Below.refl _ _⟩
  have e3 : decide (d < 0) = false := by simp; omega
  by_cases a4 : 15 < d
  · have e4 : decide (15 < d) = true := by simp [a4]
    go_enter Try.func22, Try.ntmps22
    go_wp2_with fail
    go_returns
    exact ⟨⟨_, _, _, _, _, rfl⟩, Below.refl _ _⟩
  have e4 : decide (15 < d) = false := by simp; omega
  by_cases a5 : f = d
  · have e5 : (f == d) = true := by simp [a5]
    clear a5
    go_enter Try.func22, Try.ntmps22
    go_wp2_with fail
    go_returns
    exact ⟨⟨_, _, _, _, _, rfl⟩, Below.refl _ _⟩
  have e5 : (f == d) = false := by simp [a5]
  cases zp
  · go_enter Try.func22, Try.ntmps22
    go_wp2_with fail
    refine (PP.out _).mono ?_
    rintro e u1 ⟨rfl, hu⟩
    replace hu := hu.symm
    subst hu
    go_wp2_with fail
    go_returns
    exact ⟨⟨_, _, _, _, _, rfl⟩, Below.refl _ _⟩
  have f0 : 0 ≤ f := by omega
  have f1 : f ≤ 15 := by omega
  go_enter Try.func22, Try.ntmps22
  go_wp2_with fail
  refine (PP.out _).mono ?_
  rintro e u1 ⟨rfl, hu⟩
  replace hu := hu.symm
  subst hu
  go_wp2_with fail
  refine wp_loop_rounds 1 ?_
  rw [rounds_succ]
  go_wp2_with fail
  refine (FN.out _ _).mono ?_
  rintro e u2 ⟨rfl, hb2⟩
  have B2 : Hid (Below w.heap.size w u2) := hb2
  clear hb2
  go_wp2_with fail
  go_region_with (refine (PU.out _ _ _ _ _ _ _ _).mono ?_; rintro e u3 ⟨⟨q3, c3, rfl⟩, hb3⟩; have y0 : u3.cell? ⟨u2.heap.size + 1, 0, none⟩ = some (.int .i64 (16 * f)) := (hb3.cell (p := ⟨u2.heap.size + 1, 0, none⟩) (by simp)).trans (by simp); have B3 : Hid (Below w.heap.size w u3) := (below_then (below_drew (below_new (below_new B2.out _) _)) hb3); clear hb3)
  all_goals go_wp2_with fail
  all_goals go_returns
  all_goals exact ⟨⟨_, _, _, _, _, rfl⟩, B3.out⟩
end Go.Proofs.Ytenfdcjnfgjilaa
