/- Read of any words; Used; awake. -/
import Derived.Test.YtccbacjiiffheaaCM
import Derived.ChangeKeysEq
namespace Go.Proofs.Ytccbacjiiffheaa
open Go.ChangeShapes Go.WideShapes Go.ChangeAt Go.RowKit Go.Maps
set_option linter.unusedSimpArgs false
set_option linter.unusedVariables false

theorem read_yes (W : Wd) (hw : W.wf) (c : Cl) (h : Says W c) (w : World) : Calls Try.prog 9 #[W.val] w fun e w' => e = .returned (.tuple #[c.val, .int .i64 0]) ∧ Below w.heap.size w w' := by
  obtain ⟨n, h1, h2⟩ := h
  exact read_ok W hw c n h1 (case_used (case_of h1)).2.1 h2 w
theorem read_no (W : Wd) (hw : W.wf) (h : ¬ ∃ c, Says W c) (w : World) : Calls Try.prog 9 #[W.val] w fun e w' => e = .returned (.tuple #[Cl.zero.val, .int .i64 13]) ∧ Below w.heap.size w w' := by
  cases hc : callV W with
  | none => exact read_no1 W hw hc w
  | some p =>
    obtain ⟨c, n⟩ := p
    exact read_no2 W hw c n hc (case_used (case_of hc)).2.1 (fun z => h ⟨c, n, hc, z⟩) w
theorem wf_lit (a b c d : Int) (ha : 0 ≤ a ∧ a < 100) (hb : 0 ≤ b ∧ b < 100) (hc : 0 ≤ c ∧ c < 100) (hd : 0 ≤ d ∧ d < 100) : (Wd.mk a b c d 0 0).wf := fun k => by
  match k with
  | 0 => show 0 ≤ a ∧ a < _; omega
  | 1 => show 0 ≤ b ∧ b < _; omega
  | 2 => show 0 ≤ c ∧ c < _; omega
  | 3 => show 0 ≤ d ∧ d < _; omega
  | 4 => show (0 : Int) ≤ 0 ∧ (0 : Int) < _; omega
  | 5 => show (0 : Int) ≤ 0 ∧ (0 : Int) < _; omega
  | k + 6 =>
    have : (Wd.mk a b c d 0 0).at (k + 6) = 0 := by simp [Wd.at, Wd.list]
    rw [this]; omega
theorem read_map (w : World) : Calls Try.prog 9 #[(Wd.mk 1 5 2 3 0 0).val] w fun e w' => e = .returned (.tuple #[.agg #[.int .i64 1, .int .i64 5, .int .i64 7, .bool true, .bool true, .bool true, .int .u64 0, .int .i64 0, .int .u64 0, .int .i64 0, .int .i64 0, .int .i64 0, .int .i64 0], .int .i64 0]) ∧ Below w.heap.size w w' :=
  read_yes ⟨1, 5, 2, 3, 0, 0⟩ (wf_lit 1 5 2 3 (by omega) (by omega) (by omega) (by omega)) ⟨1, 5, 7, true, true, true, 0, 0, 0, 0, 0, 0, 0⟩ ⟨4, by decide, fun i h1 h2 => by
    have : i = 4 ∨ i = 5 := by omega
    rcases this with rfl | rfl <;> rfl⟩ w
theorem read_bad (w : World) : Calls Try.prog 9 #[(Wd.mk 4 4 8 0 0 0).val] w fun e w' => e = .returned (.tuple #[Cl.zero.val, .int .i64 13]) ∧ Below w.heap.size w w' :=
  read_no1 ⟨4, 4, 8, 0, 0, 0⟩ (wf_lit 4 4 8 0 (by omega) (by omega) (by omega) (by omega)) (by decide) w
set_option maxHeartbeats 2000000 in
theorem awake_any (w : World) : Calls Try.prog 11 #[] w fun e w' => e = .returned (.bool true) ∧ Below w.heap.size w w' := by
  have R1 : Hid (∀ W : World, Calls Try.prog 9 #[.agg #[.int .u64 1, .int .u64 5, .int .u64 2, .int .u64 3, .int .u64 0, .int .u64 0]] W fun e w' => e = .returned (.tuple #[.agg #[.int .i64 1, .int .i64 5, .int .i64 7, .bool true, .bool true, .bool true, .int .u64 0, .int .i64 0, .int .u64 0, .int .i64 0, .int .i64 0, .int .i64 0, .int .i64 0], .int .i64 0]) ∧ Below W.heap.size W w') := read_map
  have R2 : Hid (∀ W : World, Calls Try.prog 9 #[.agg #[.int .u64 4, .int .u64 4, .int .u64 8, .int .u64 0, .int .u64 0, .int .u64 0]] W fun e w' => e = .returned (.tuple #[Cl.zero.val, .int .i64 13]) ∧ Below W.heap.size W w') := read_bad
  have EQ : ∀ W : World, (binOp .eql 30 (.agg #[.int .i64 1, .int .i64 5, .int .i64 7, .bool true, .bool true, .bool true, .int .u64 0, .int .i64 0, .int .u64 0, .int .i64 0, .int .i64 0, .int .i64 0, .int .i64 0]) (.agg #[.int .i64 1, .int .i64 5, .int .i64 7, .bool true, .bool true, .bool true, .int .u64 0, .int .i64 0, .int .u64 0, .int .i64 0, .int .i64 0, .int .i64 0, .int .i64 0])).run Try.prog W = .ok (.bool true) W := fun W => by kernel_rfl
  go_enter Try.func11, Try.ntmps11
  go_wp2_with fail
  refine (R1.out _).mono ?_
  rintro e u1 ⟨rfl, hb⟩
  have B1 : Hid (Below w.heap.size w u1) := hb
  clear hb
  go_wp2_with fail
  have Z0 : Hid (Blk (u1.alloc (.cells #[.int .i64 1, .int .i64 5, .int .i64 7, .bool true, .bool true, .bool true, .int .u64 0, .int .i64 0, .int .u64 0, .int .i64 0, .int .i64 0, .int .i64 0, .int .i64 0] 30)) u1.heap.size [.int .i64 1, .int .i64 5, .int .i64 7, .bool true, .bool true, .bool true, .int .u64 0, .int .i64 0, .int .u64 0, .int .i64 0, .int .i64 0, .int .i64 0, .int .i64 0] 30) := Blk.made u1 _ _
  refine (R2.out _).mono ?_
  rintro e u2 ⟨rfl, hb⟩
  have B2 : Hid (Below w.heap.size w u2) := below_then (below_new B1.out _) hb
  have Z1 : Hid (Blk u2 u1.heap.size [.int .i64 1, .int .i64 5, .int .i64 7, .bool true, .bool true, .bool true, .int .u64 0, .int .i64 0, .int .u64 0, .int .i64 0, .int .i64 0, .int .i64 0, .int .i64 0] 30) := Z0.out.below hb
  clear hb Z0
  have c0 : u2.cell? ⟨u1.heap.size, 0, none⟩ = some (.int .i64 1) := Z1.out.cell 0
  have c1 : u2.cell? ⟨u1.heap.size, 1, none⟩ = some (.int .i64 5) := Z1.out.cell 1
  have c2 : u2.cell? ⟨u1.heap.size, 2, none⟩ = some (.int .i64 7) := Z1.out.cell 2
  have c3 : u2.cell? ⟨u1.heap.size, 3, none⟩ = some (.bool true) := Z1.out.cell 3
  have c4 : u2.cell? ⟨u1.heap.size, 4, none⟩ = some (.bool true) := Z1.out.cell 4
  have c5 : u2.cell? ⟨u1.heap.size, 5, none⟩ = some (.bool true) := Z1.out.cell 5
  have c6 : u2.cell? ⟨u1.heap.size, 6, none⟩ = some (.int .u64 0) := Z1.out.cell 6
  have c7 : u2.cell? ⟨u1.heap.size, 7, none⟩ = some (.int .i64 0) := Z1.out.cell 7
  have c8 : u2.cell? ⟨u1.heap.size, 8, none⟩ = some (.int .u64 0) := Z1.out.cell 8
  have c9 : u2.cell? ⟨u1.heap.size, 9, none⟩ = some (.int .i64 0) := Z1.out.cell 9
  have c10 : u2.cell? ⟨u1.heap.size, 10, none⟩ = some (.int .i64 0) := Z1.out.cell 10
  have c11 : u2.cell? ⟨u1.heap.size, 11, none⟩ = some (.int .i64 0) := Z1.out.cell 11
  have c12 : u2.cell? ⟨u1.heap.size, 12, none⟩ = some (.int .i64 0) := Z1.out.cell 12
  have lt : u1.heap.size < u2.heap.size := blk_lt Z1.out
  go_wp2_with fail
  go_ret
  exact ⟨rfl, below_new B2.out _⟩
set_option maxHeartbeats 2000000 in
theorem used_any (x : Int) (w : World) : Calls Try.prog 14 #[.int .u64 x] w fun e w' => e = .returned (.int .i64 (usedV x)) ∧ w' = w := by
  by_cases e1 : x = 1
  · subst e1
    go_enter Try.func14, Try.ntmps14
    go_wp2_with fail
    go_returns
    exact ⟨rfl, rfl⟩
  by_cases e2 : x = 2
  · subst e2
    go_enter Try.func14, Try.ntmps14
    go_wp2_with fail
    go_returns
    exact ⟨rfl, rfl⟩
  by_cases e3 : x = 3
  · subst e3
    go_enter Try.func14, Try.ntmps14
    go_wp2_with fail
    go_returns
    exact ⟨rfl, rfl⟩
  by_cases e4 : x = 4
  · subst e4
    go_enter Try.func14, Try.ntmps14
    go_wp2_with fail
    go_returns
    exact ⟨rfl, rfl⟩
  by_cases e5 : x = 5
  · subst e5
    go_enter Try.func14, Try.ntmps14
    go_wp2_with fail
    go_returns
    exact ⟨rfl, rfl⟩
  by_cases e6 : x = 6
  · subst e6
    go_enter Try.func14, Try.ntmps14
    go_wp2_with fail
    go_returns
    exact ⟨rfl, rfl⟩
  by_cases e7 : x = 7
  · subst e7
    go_enter Try.func14, Try.ntmps14
    go_wp2_with fail
    go_returns
    exact ⟨rfl, rfl⟩
  by_cases e8 : x = 8
  · subst e8
    go_enter Try.func14, Try.ntmps14
    go_wp2_with fail
    go_returns
    exact ⟨rfl, rfl⟩
  by_cases e9 : x = 9
  · subst e9
    go_enter Try.func14, Try.ntmps14
    go_wp2_with fail
    go_returns
    exact ⟨rfl, rfl⟩
  by_cases e10 : x = 10
  · subst e10
    go_enter Try.func14, Try.ntmps14
    go_wp2_with fail
    go_returns
    exact ⟨rfl, rfl⟩
  by_cases e11 : x = 11
  · subst e11
    go_enter Try.func14, Try.ntmps14
    go_wp2_with fail
    go_returns
    exact ⟨rfl, rfl⟩
  by_cases e12 : x = 12
  · subst e12
    go_enter Try.func14, Try.ntmps14
    go_wp2_with fail
    go_returns
    exact ⟨rfl, rfl⟩
  by_cases e13 : x = 13
  · subst e13
    go_enter Try.func14, Try.ntmps14
    go_wp2_with fail
    go_returns
    exact ⟨rfl, rfl⟩
  by_cases e14 : x = 14
  · subst e14
    go_enter Try.func14, Try.ntmps14
    go_wp2_with fail
    go_returns
    exact ⟨rfl, rfl⟩
  by_cases e15 : x = 15
  · subst e15
    go_enter Try.func14, Try.ntmps14
    go_wp2_with fail
    go_returns
    exact ⟨rfl, rfl⟩
  by_cases e16 : x = 16
  · subst e16
    go_enter Try.func14, Try.ntmps14
    go_wp2_with fail
    go_returns
    exact ⟨rfl, rfl⟩
  have hu : usedV x = -1 := by simp [usedV, e1, e2, e3, e4, e5, e6, e7, e8, e9, e10, e11, e12, e13, e14, e15, e16]
  rw [hu]
  have b1 : (x == 1) = false := by simp [e1]
  have b2 : (x == 2) = false := by simp [e2]
  have b3 : (x == 3) = false := by simp [e3]
  have b4 : (x == 4) = false := by simp [e4]
  have b5 : (x == 5) = false := by simp [e5]
  have b6 : (x == 6) = false := by simp [e6]
  have b7 : (x == 7) = false := by simp [e7]
  have b8 : (x == 8) = false := by simp [e8]
  have b9 : (x == 9) = false := by simp [e9]
  have b10 : (x == 10) = false := by simp [e10]
  have b11 : (x == 11) = false := by simp [e11]
  have b12 : (x == 12) = false := by simp [e12]
  have b13 : (x == 13) = false := by simp [e13]
  have b14 : (x == 14) = false := by simp [e14]
  have b15 : (x == 15) = false := by simp [e15]
  have b16 : (x == 16) = false := by simp [e16]
  go_enter Try.func14, Try.ntmps14
  go_wp2_with fail
  go_returns
  exact ⟨rfl, rfl⟩
theorem equalW (d : Nat) (A B : Wd) (W : World) : (Op.equalIn (d + 2) 24 A.val B.val).run Try.prog W = .ok (decide (A = B)) W := by
  obtain ⟨i, hi⟩ : ∃ i, Try.prog.info? 22 = some i := ⟨_, rfl⟩
  rw [run_equalIn_array W (d + 1) _ _ Try.underlying24 hi]
  have hr : List.range 6 = [0, 1, 2, 3, 4, 5] := rfl
  obtain ⟨a0, a1, a2, a3, a4, a5⟩ := A
  obtain ⟨b0, b1, b2, b3, b4, b5⟩ := B
  rw [hr, cellsU]
  have p0 : ∀ (x0 x1 x2 x3 x4 x5 : Value) (W : World), (part 22 #[x0, x1, x2, x3, x4, x5] 0).run Try.prog W = .ok x0 W := fun _ _ _ _ _ _ W => by kernel_rfl
  have p1 : ∀ (x0 x1 x2 x3 x4 x5 : Value) (W : World), (part 22 #[x0, x1, x2, x3, x4, x5] 1).run Try.prog W = .ok x1 W := fun _ _ _ _ _ _ W => by kernel_rfl
  have p2 : ∀ (x0 x1 x2 x3 x4 x5 : Value) (W : World), (part 22 #[x0, x1, x2, x3, x4, x5] 2).run Try.prog W = .ok x2 W := fun _ _ _ _ _ _ W => by kernel_rfl
  have p3 : ∀ (x0 x1 x2 x3 x4 x5 : Value) (W : World), (part 22 #[x0, x1, x2, x3, x4, x5] 3).run Try.prog W = .ok x3 W := fun _ _ _ _ _ _ W => by kernel_rfl
  have p4 : ∀ (x0 x1 x2 x3 x4 x5 : Value) (W : World), (part 22 #[x0, x1, x2, x3, x4, x5] 4).run Try.prog W = .ok x4 W := fun _ _ _ _ _ _ W => by kernel_rfl
  have p5 : ∀ (x0 x1 x2 x3 x4 x5 : Value) (W : World), (part 22 #[x0, x1, x2, x3, x4, x5] 5).run Try.prog W = .ok x5 W := fun _ _ _ _ _ _ W => by kernel_rfl
  simp [Op.eqItems, p0, p1, p2, p3, p4, p5, eqU]
  by_cases h0 : a0 = b0 <;> by_cases h1 : a1 = b1 <;> by_cases h2 : a2 = b2 <;> by_cases h3 : a3 = b3 <;> by_cases h4 : a4 = b4 <;> by_cases h5 : a5 = b5 <;> simp [h0, h1, h2, h3, h4, h5]
theorem eqWd (A B : Wd) (W : World) : (binOp .eql 24 A.val B.val).run Try.prog W = .ok (.bool (decide (A = B))) W := by
  have := equalW 9998 A B W
  simp only [binOp, Op.equal, Sem.run_bind]
  rw [show Op.maxDepth = 9998 + 2 from rfl, this]; rfl
theorem neWd (A B : Wd) (W : World) : (binOp .neq 24 A.val B.val).run Try.prog W = .ok (.bool (!decide (A = B))) W := by
  have := equalW 9998 A B W
  simp only [binOp, Op.equal, Sem.run_bind]
  rw [show Op.maxDepth = 9998 + 2 from rfl, this]; rfl
end Go.Proofs.Ytccbacjiiffheaa
