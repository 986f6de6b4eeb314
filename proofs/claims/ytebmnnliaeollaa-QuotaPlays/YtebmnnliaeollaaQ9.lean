/- Containers: a call of the laws; calls that come in. -/
import Derived.Test.YtebmnnliaeollaaQ8
import Derived.Deep.Slices
namespace Go.Proofs.Ytebmnnliaeollaa
open Go.ChangeShapes Go.WideShapes Go.ChangeAt Go.RowKit Go.Maps
set_option linter.unusedSimpArgs false
set_option linter.unusedVariables false

set_option maxHeartbeats 400000 in
theorem find_nil (i : Int) (w : World) : Calls Try.prog 22 #[.slice none 0 0, .int .i64 i] w fun e w' => e = .returned (.tuple #[.agg #[.int .i64 0, .int .i64 0, .int .i64 0, .int .i64 0], .bool false]) ∧ Below w.heap.size w w' := by
  go_enter Try.func22, Try.ntmps22
  go_wp2_with fail
  refine wp_loop_rounds 1 ?_
  rw [rounds_succ]
  go_wp2_with fail
  go_returns
  exact ⟨rfl, Go.Joins.below_alloc1 _ _⟩
set_option maxHeartbeats 400000 in
theorem rchild_nil (i n : Int) (w : World) : Calls Try.prog 15 #[.slice none 0 0, .int .i64 i, .int .i64 n] w fun e w' => e = .returned (.tuple #[.slice none 0 0, .int .i64 0, .int .i64 5]) ∧ Below w.heap.size w w' := by
  have F : Hid (∀ w : World, Calls Try.prog 22 #[.slice none 0 0, .int .i64 i] w fun e w' => e = .returned (.tuple #[.agg #[.int .i64 0, .int .i64 0, .int .i64 0, .int .i64 0], .bool false]) ∧ Below w.heap.size w w') := fun w => find_nil i w
  go_enter Try.func15, Try.ntmps15
  go_wp2_with fail
  refine (F.out _).mono ?_
  rintro e u1 ⟨rfl, hb1⟩
  have B1 : Hid (Below w.heap.size w u1) := hb1
  clear hb1
  go_wp2_with fail
  go_returns
  exact ⟨rfl, below_new B1.out _⟩
set_option maxHeartbeats 400000 in
theorem rcharge_nil (i n : Int) (w : World) : Calls Try.prog 16 #[.slice none 0 0, .int .i64 i, .int .i64 n] w fun e w' => e = .returned (.int .i64 5) ∧ Below w.heap.size w w' := by
  have F : Hid (∀ w : World, Calls Try.prog 22 #[.slice none 0 0, .int .i64 i] w fun e w' => e = .returned (.tuple #[.agg #[.int .i64 0, .int .i64 0, .int .i64 0, .int .i64 0], .bool false]) ∧ Below w.heap.size w w') := fun w => find_nil i w
  go_enter Try.func16, Try.ntmps16
  go_wp2_with fail
  refine (F.out _).mono ?_
  rintro e u1 ⟨rfl, hb1⟩
  have B1 : Hid (Below w.heap.size w u1) := hb1
  clear hb1
  go_wp2_with fail
  go_returns
  exact ⟨rfl, below_new B1.out _⟩
set_option maxHeartbeats 400000 in
theorem rcredit_nil (i n : Int) (w : World) : Calls Try.prog 18 #[.slice none 0 0, .int .i64 i, .int .i64 n] w fun e w' => e = .returned (.int .i64 5) ∧ Below w.heap.size w w' := by
  have F : Hid (∀ w : World, Calls Try.prog 22 #[.slice none 0 0, .int .i64 i] w fun e w' => e = .returned (.tuple #[.agg #[.int .i64 0, .int .i64 0, .int .i64 0, .int .i64 0], .bool false]) ∧ Below w.heap.size w w') := fun w => find_nil i w
  go_enter Try.func18, Try.ntmps18
  go_wp2_with fail
  refine (F.out _).mono ?_
  rintro e u1 ⟨rfl, hb1⟩
  have B1 : Hid (Below w.heap.size w u1) := hb1
  clear hb1
  go_wp2_with fail
  go_returns
  exact ⟨rfl, below_new B1.out _⟩
set_option maxHeartbeats 400000 in
theorem rend_nil (i n : Int) (w : World) : Calls Try.prog 20 #[.slice none 0 0, .int .i64 i] w fun e w' => e = .returned (.tuple #[.slice none 0 0, .int .i64 5]) ∧ Below w.heap.size w w' := by
  have F : Hid (∀ w : World, Calls Try.prog 22 #[.slice none 0 0, .int .i64 i] w fun e w' => e = .returned (.tuple #[.agg #[.int .i64 0, .int .i64 0, .int .i64 0, .int .i64 0], .bool false]) ∧ Below w.heap.size w w') := fun w => find_nil i w
  go_enter Try.func20, Try.ntmps20
  go_wp2_with fail
  refine (F.out _).mono ?_
  rintro e u1 ⟨rfl, hb1⟩
  have B1 : Hid (Below w.heap.size w u1) := hb1
  clear hb1
  go_wp2_with fail
  go_returns
  exact ⟨rfl, below_new B1.out _⟩
/-- a call -/
def doesT (T : Nat → Nd) (k i n : Int) : Nat → Nd := if k = 1 then childT T i n else if k = 2 then chargeT T i n else if k = 3 then creditT T i n else if k = 4 then endT T i else T
theorem Good.does {T : Nat → Nd} {root : Int} (g : Good T root) (k i n : Int) : Good (doesT T k i n) root := by
  unfold doesT
  by_cases a : k = 1
  · rw [if_pos a]; exact g.child i n
  rw [if_neg a]
  by_cases b : k = 2
  · rw [if_pos b]; exact g.charge i n
  rw [if_neg b]
  by_cases c : k = 3
  · rw [if_pos c]; exact g.credit i n
  rw [if_neg c]
  by_cases d : k = 4
  · rw [if_pos d]; exact g.ends i
  · rw [if_neg d]; exact g
theorem grown_new {w W : World} {r : Option Nat} (h : w.grownBy W r) (o : Obj) : w.grownBy (W.alloc o) r := grown_trans h (grown_alloc _ _ _)
set_option maxHeartbeats 2000000 in
theorem does_any (b : Nat) (T : Nat → Nd) (hT : OkT T) (hP : ParT T) (k i n : Int) (w : World) (h : IsTree w b T) :
    Calls Try.prog 6 #[.pointer (some ⟨b, 0, none⟩), .slice none 0 0, .agg #[.int .i64 k, .int .i64 i, .int .i64 n]] w fun e w' => (∃ v, e = .returned v) ∧ IsTree w' b (doesT T k i n) ∧ w.grownBy w' (some b) := by
  have hb := h.2.2
  have HT : Hid (IsTree w b T) := h
  have CH : Hid (∀ W : World, IsTree W b T → Calls Try.prog 12 #[.pointer (some ⟨b, 0, none⟩), .int .i64 i, .int .i64 n] W fun e w' => e = .returned (.tuple #[.int .i64 (childI T i n), .int .i64 (childN T i n)]) ∧ IsTree w' b (childT T i n) ∧ W.grownBy w' (some b)) := fun W h => child_any b T hT i n W h
  have CG : Hid (∀ W : World, IsTree W b T → Calls Try.prog 13 #[.pointer (some ⟨b, 0, none⟩), .int .i64 i, .int .i64 n] W fun e w' => e = .returned (.int .i64 (mayN T i n)) ∧ IsTree w' b (chargeT T i n) ∧ W.grownBy w' (some b)) := fun W h => charge_any b T hT i n W h
  have CR : Hid (∀ W : World, IsTree W b T → Calls Try.prog 19 #[.pointer (some ⟨b, 0, none⟩), .int .i64 i, .int .i64 n] W fun e w' => e = .returned (.int .i64 (creditN T i n)) ∧ IsTree w' b (creditT T i n) ∧ W.grownBy w' (some b)) := fun W h => credit_any b T hT i n W h
  have CE : Hid (∀ W : World, IsTree W b T → Calls Try.prog 14 #[.pointer (some ⟨b, 0, none⟩), .int .i64 i] W fun e w' => e = .returned (.int .i64 (endN T i)) ∧ IsTree w' b (endT T i) ∧ W.grownBy w' (some b)) := fun W h => end_any b T hT hP i W h
  have R1 : Hid (∀ w : World, Calls Try.prog 15 #[.slice none 0 0, .int .i64 i, .int .i64 n] w fun e w' => e = .returned (.tuple #[.slice none 0 0, .int .i64 0, .int .i64 5]) ∧ Below w.heap.size w w') := fun w => rchild_nil i n w
  have R2 : Hid (∀ w : World, Calls Try.prog 16 #[.slice none 0 0, .int .i64 i, .int .i64 n] w fun e w' => e = .returned (.int .i64 5) ∧ Below w.heap.size w w') := fun w => rcharge_nil i n w
  have R3 : Hid (∀ w : World, Calls Try.prog 18 #[.slice none 0 0, .int .i64 i, .int .i64 n] w fun e w' => e = .returned (.int .i64 5) ∧ Below w.heap.size w w') := fun w => rcredit_nil i n w
  have R4 : Hid (∀ w : World, Calls Try.prog 20 #[.slice none 0 0, .int .i64 i] w fun e w' => e = .returned (.tuple #[.slice none 0 0, .int .i64 5]) ∧ Below w.heap.size w w') := fun w => rend_nil i n w
  clear h hT hP
  unfold doesT
  by_cases a : k = 1
  · subst a
    rw [if_pos rfl]
    clear CG CR CE R2 R3 R4
    generalize childI T i n = ci at CH
    generalize childN T i n = cn at CH
    by_cases cz : ci = 0
    · have cb : (ci == 0) = true := by simp [cz]
      go_enter Try.func6, Try.ntmps6
      go_wp2_with fail
      refine (CH.out _ (HT.out.below (Go.Joins.below_alloc1 _ _))).mono ?_
      rintro e u1 ⟨rfl, h1, h2⟩
      have x1 : u1.cell? ⟨w.heap.size, 1, none⟩ = some (.int .i64 i) := cell_grown h2 (by simp) (by omega) (by simp)
      have x2 : u1.cell? ⟨w.heap.size, 2, none⟩ = some (.int .i64 n) := cell_grown h2 (by simp) (by omega) (by simp)
      have lx : w.heap.size < u1.heap.size := Nat.lt_of_lt_of_le (by simp) h2.size
      have T1 : Hid (IsTree u1 b (childT T i n)) := h1
      have G1 : Hid (w.grownBy u1 (some b)) := grown_trans (grown_alloc _ _ _) h2
      clear h1 h2
      go_wp2_with fail
      refine (R1.out _).mono ?_
      rintro e u2 ⟨rfl, hb2⟩
      have T2 : Hid (IsTree u2 b (childT T i n)) := T1.out.below hb2
      have G2 : Hid (w.grownBy u2 (some b)) := grown_trans G1.out (grown_of_below hb2 _)
      clear hb2
      go_wp2_with fail
      go_returns
      exact ⟨⟨_, rfl⟩, T2.out, G2.out⟩
    · have cb : (ci == 0) = false := by simp [cz]
      go_enter Try.func6, Try.ntmps6
      go_wp2_with fail
      refine (CH.out _ (HT.out.below (Go.Joins.below_alloc1 _ _))).mono ?_
      rintro e u1 ⟨rfl, h1, h2⟩
      have x1 : u1.cell? ⟨w.heap.size, 1, none⟩ = some (.int .i64 i) := cell_grown h2 (by simp) (by omega) (by simp)
      have x2 : u1.cell? ⟨w.heap.size, 2, none⟩ = some (.int .i64 n) := cell_grown h2 (by simp) (by omega) (by simp)
      have lx : w.heap.size < u1.heap.size := Nat.lt_of_lt_of_le (by simp) h2.size
      have T1 : Hid (IsTree u1 b (childT T i n)) := h1
      have G1 : Hid (w.grownBy u1 (some b)) := grown_trans (grown_alloc _ _ _) h2
      clear h1 h2
      go_wp2_with fail
      refine (R1.out _).mono ?_
      rintro e u2 ⟨rfl, hb2⟩
      have T2 : Hid (IsTree u2 b (childT T i n)) := T1.out.below hb2
      have G2 : Hid (w.grownBy u2 (some b)) := grown_trans G1.out (grown_of_below hb2 _)
      clear hb2
      go_wp2_with fail
      go_returns
      exact ⟨⟨_, rfl⟩, T2.out, G2.out⟩
  have ab : (k == 1) = false := by simp [a]
  rw [if_neg a]
  by_cases b2 : k = 2
  · subst b2
    rw [if_pos rfl]
    clear CH CR CE R1 R3 R4
    generalize mayN T i n = cn at CG
    by_cases cz : cn = 5
    · have cb : (cn == 5) = true := by simp [cz]
      go_enter Try.func6, Try.ntmps6
      go_wp2_with fail
      refine (R2.out _).mono ?_
      rintro e u1 ⟨rfl, hb1⟩
      have x1 : u1.cell? ⟨w.heap.size, 1, none⟩ = some (.int .i64 i) := (hb1.cell (p := ⟨w.heap.size, 1, none⟩) (by simp)).trans (by simp)
      have x2 : u1.cell? ⟨w.heap.size, 2, none⟩ = some (.int .i64 n) := (hb1.cell (p := ⟨w.heap.size, 2, none⟩) (by simp)).trans (by simp)
      have lx : w.heap.size < u1.heap.size := Nat.lt_of_lt_of_le (by simp) hb1.size
      have B1 : Hid (Below w.heap.size w u1) := below_then (Go.Joins.below_alloc1 _ _) hb1
      clear hb1
      go_wp2_with fail
      refine (CG.out _ (HT.out.below B1.out)).mono ?_
      rintro e u2 ⟨rfl, h1, h2⟩
      have T2 : Hid (IsTree u2 b (chargeT T i n)) := h1
      have G2 : Hid (w.grownBy u2 (some b)) := grown_trans (grown_of_below B1.out _) h2
      clear h1 h2
      go_wp2_with fail
      go_returns
      exact ⟨⟨_, rfl⟩, T2.out, G2.out⟩
    · have cb : (cn == 5) = false := by simp [cz]
      go_enter Try.func6, Try.ntmps6
      go_wp2_with fail
      refine (R2.out _).mono ?_
      rintro e u1 ⟨rfl, hb1⟩
      have x1 : u1.cell? ⟨w.heap.size, 1, none⟩ = some (.int .i64 i) := (hb1.cell (p := ⟨w.heap.size, 1, none⟩) (by simp)).trans (by simp)
      have x2 : u1.cell? ⟨w.heap.size, 2, none⟩ = some (.int .i64 n) := (hb1.cell (p := ⟨w.heap.size, 2, none⟩) (by simp)).trans (by simp)
      have lx : w.heap.size < u1.heap.size := Nat.lt_of_lt_of_le (by simp) hb1.size
      have B1 : Hid (Below w.heap.size w u1) := below_then (Go.Joins.below_alloc1 _ _) hb1
      clear hb1
      go_wp2_with fail
      refine (CG.out _ (HT.out.below B1.out)).mono ?_
      rintro e u2 ⟨rfl, h1, h2⟩
      have T2 : Hid (IsTree u2 b (chargeT T i n)) := h1
      have G2 : Hid (w.grownBy u2 (some b)) := grown_trans (grown_of_below B1.out _) h2
      clear h1 h2
      go_wp2_with fail
      go_returns
      exact ⟨⟨_, rfl⟩, T2.out, G2.out⟩
  have b2b : (k == 2) = false := by simp [b2]
  rw [if_neg b2]
  by_cases b3 : k = 3
  · subst b3
    rw [if_pos rfl]
    clear CH CG CE R1 R2 R4
    generalize creditN T i n = cn at CR
    by_cases cz : cn = 5
    · have cb : (cn == 5) = true := by simp [cz]
      go_enter Try.func6, Try.ntmps6
      go_wp2_with fail
      refine (R3.out _).mono ?_
      rintro e u1 ⟨rfl, hb1⟩
      have x1 : u1.cell? ⟨w.heap.size, 1, none⟩ = some (.int .i64 i) := (hb1.cell (p := ⟨w.heap.size, 1, none⟩) (by simp)).trans (by simp)
      have x2 : u1.cell? ⟨w.heap.size, 2, none⟩ = some (.int .i64 n) := (hb1.cell (p := ⟨w.heap.size, 2, none⟩) (by simp)).trans (by simp)
      have lx : w.heap.size < u1.heap.size := Nat.lt_of_lt_of_le (by simp) hb1.size
      have B1 : Hid (Below w.heap.size w u1) := below_then (Go.Joins.below_alloc1 _ _) hb1
      clear hb1
      go_wp2_with fail
      refine (CR.out _ (HT.out.below B1.out)).mono ?_
      rintro e u2 ⟨rfl, h1, h2⟩
      have T2 : Hid (IsTree u2 b (creditT T i n)) := h1
      have G2 : Hid (w.grownBy u2 (some b)) := grown_trans (grown_of_below B1.out _) h2
      clear h1 h2
      go_wp2_with fail
      go_returns
      exact ⟨⟨_, rfl⟩, T2.out, G2.out⟩
    · have cb : (cn == 5) = false := by simp [cz]
      go_enter Try.func6, Try.ntmps6
      go_wp2_with fail
      refine (R3.out _).mono ?_
      rintro e u1 ⟨rfl, hb1⟩
      have x1 : u1.cell? ⟨w.heap.size, 1, none⟩ = some (.int .i64 i) := (hb1.cell (p := ⟨w.heap.size, 1, none⟩) (by simp)).trans (by simp)
      have x2 : u1.cell? ⟨w.heap.size, 2, none⟩ = some (.int .i64 n) := (hb1.cell (p := ⟨w.heap.size, 2, none⟩) (by simp)).trans (by simp)
      have lx : w.heap.size < u1.heap.size := Nat.lt_of_lt_of_le (by simp) hb1.size
      have B1 : Hid (Below w.heap.size w u1) := below_then (Go.Joins.below_alloc1 _ _) hb1
      clear hb1
      go_wp2_with fail
      refine (CR.out _ (HT.out.below B1.out)).mono ?_
      rintro e u2 ⟨rfl, h1, h2⟩
      have T2 : Hid (IsTree u2 b (creditT T i n)) := h1
      have G2 : Hid (w.grownBy u2 (some b)) := grown_trans (grown_of_below B1.out _) h2
      clear h1 h2
      go_wp2_with fail
      go_returns
      exact ⟨⟨_, rfl⟩, T2.out, G2.out⟩
  have b3b : (k == 3) = false := by simp [b3]
  rw [if_neg b3]
  by_cases b4 : k = 4
  · subst b4
    rw [if_pos rfl]
    clear CH CG CR R1 R2 R3
    generalize endN T i = cn at CE
    go_enter Try.func6, Try.ntmps6
    go_wp2_with fail
    refine (R4.out _).mono ?_
    rintro e u1 ⟨rfl, hb1⟩
    have x1 : u1.cell? ⟨w.heap.size, 1, none⟩ = some (.int .i64 i) := (hb1.cell (p := ⟨w.heap.size, 1, none⟩) (by simp)).trans (by simp)
    have lx : w.heap.size < u1.heap.size := Nat.lt_of_lt_of_le (by simp) hb1.size
    have B1 : Hid (Below w.heap.size w u1) := below_then (Go.Joins.below_alloc1 _ _) hb1
    clear hb1
    go_wp2_with fail
    refine (CE.out _ (HT.out.below B1.out)).mono ?_
    rintro e u2 ⟨rfl, h1, h2⟩
    have T2 : Hid (IsTree u2 b (endT T i)) := h1
    have G2 : Hid (w.grownBy u2 (some b)) := grown_trans (grown_of_below B1.out _) h2
    clear h1 h2
    go_wp2_with fail
    go_returns
    exact ⟨⟨_, rfl⟩, T2.out, G2.out⟩
  have b4b : (k == 4) = false := by simp [b4]
  rw [if_neg b4]
  clear CH CG CR CE R1 R2 R3 R4
  go_enter Try.func6, Try.ntmps6
  go_wp2_with fail
  go_returns
  exact ⟨⟨_, rfl⟩, HT.out.below (Go.Joins.below_alloc1 _ _), grown_alloc _ _ _⟩
theorem neutral_ok {T : Nat → Nd} {root : Int} (g : Good T root) (i n : Int) (h : mayN T i n = 0) : (getN (chargeT T i n) i).room = (getN T i).room - n ∧ creditN (chargeT T i n) i n = 0 ∧ getN (creditT (chargeT T i n) i n) i = getN T i := by
  obtain ⟨m1, m2, m3⟩ := may_zero h
  obtain ⟨k, rfl, hk, hg⟩ := live_in m1
  have nn := g.nn k hk
  have e1 : chargeT T k n = putT T k ((T k).plus n) := by unfold chargeT; rw [if_pos h, Int.toNat_natCast]
  have e2 : getN (chargeT T k n) k = (T k).plus n := by rw [e1, get_nat _ k hk, put_same]
  have e3 : creditN (chargeT T k n) k n = 0 := by
    unfold creditN
    rw [hg] at m1
    have : ¬ ((T k).plus n).used < n := by unfold Nd.plus; simp only; omega
    rw [e2, if_neg (by unfold Nd.plus; simp [m1]), if_neg (by omega), if_neg this]
  refine ⟨by rw [e2, hg]; unfold Nd.plus Nd.room; simp only; omega, e3, ?_⟩
  have e4 : creditT (chargeT T k n) k n = putT (chargeT T k n) k ((chargeT T k n k).plus (-n)) := by unfold creditT; rw [if_pos e3, Int.toNat_natCast]
  rw [e4, get_nat _ k hk, put_same, e1, put_same, get_nat T k hk]
  obtain ⟨p, q, u, l, v⟩ := T k
  unfold Nd.plus
  simp only
  congr 1
  omega
/-- calls that come in -/
def IsActs (w : World) (p : Option Addr) (n : Nat) (K I N : Nat → Int) : Prop := ∀ i, i < n → ∃ b o, p = some ⟨b, o, none⟩ ∧ b < w.heap.size ∧ w.cell? ⟨b, o + i * 3, none⟩ = some (.int .i64 (K i)) ∧ w.cell? ⟨b, o + i * 3 + 1, none⟩ = some (.int .i64 (I i)) ∧ w.cell? ⟨b, o + i * 3 + 2, none⟩ = some (.int .i64 (N i))
theorem IsActs.below {w w' : World} {p : Option Addr} {n : Nat} {K I N : Nat → Int} (h : IsActs w p n K I N) (hb : Below w.heap.size w w') : IsActs w' p n K I N := fun i hi => by
  obtain ⟨b, o, e, l, c0, c1, c2⟩ := h i hi
  exact ⟨b, o, e, Nat.lt_of_lt_of_le l hb.size, (hb.cell (p := ⟨b, _, none⟩) l).trans c0, (hb.cell (p := ⟨b, _, none⟩) l).trans c1, (hb.cell (p := ⟨b, _, none⟩) l).trans c2⟩
theorem cellsI : Try.prog.cellsOf 3 = 1 := by kernel_rfl
theorem cellsA : Try.prog.cellsOf 34 = 3 := by kernel_rfl
theorem lt_of_cell {w : World} {a : Addr} {v : Value} (h : w.cell? a = some v) : a.block < w.heap.size := by
  unfold World.cell? at h
  by_cases c : a.block < w.heap.size
  · exact c
  · rw [Array.getElem?_eq_none (by omega)] at h
    simp at h
theorem open_acts {H : Type} {enc : TypeId × Value → H} {W : World} {base : Nat} {sp : Nat → Bool} {held : Bool} {v : Value} {x : DataW H} {ps : List MemPlace} {r : Reach} {b0 : Nat}
    (hv : Value.okWide Try.prog W r b0 22 v) (h : DataW.Trod enc Try.prog W base sp held 22 v x ps) :
    ∃ (p : Option Addr) (n c : Nat) (K I N : Nat → Int), v = .slice p n c ∧ n ≤ maxLen ∧ IsActs W p n K I N := by
  obtain ⟨a', l', c', rfl⟩ := okWide_slice Try.underlying22 hv
  obtain ⟨fuel, hf⟩ := h
  rcases Go.Deep.open_slice Try.underlying22 hf with ⟨e, _⟩ | ⟨a, len, cap, m, k, D, Pl, e, hb, hl, hm, hmm, hx, hel⟩
  · have e' : Value.slice a' l' c' = .slice none 0 0 := (List.cons.inj (show [Value.slice a' l' c'] = [.slice none 0 0] from e)).1
    exact ⟨none, 0, 0, fun _ => 0, fun _ => 0, fun _ => 0, e', by omega, fun i hi => absurd hi (Nat.not_lt_zero _)⟩
  · have e' : Value.slice a' l' c' = .slice (some a) len cap := (List.cons.inj (show [Value.slice a' l' c'] = [.slice (some a) len cap] from e)).1
    have hlm : len ≤ m := by rw [hmm]; split <;> omega
    rw [e']
    have each : ∀ i, i < len → ∃ q : Int × Int × Int, a.spot = none ∧ a.block < W.heap.size ∧ W.cell? ⟨a.block, a.off + i * 3, none⟩ = some (.int .i64 q.1) ∧ W.cell? ⟨a.block, a.off + i * 3 + 1, none⟩ = some (.int .i64 q.2.1) ∧ W.cell? ⟨a.block, a.off + i * 3 + 2, none⟩ = some (.int .i64 q.2.2) := fun i hi => by
      obtain ⟨cs', h1, h2⟩ := hel i (by omega)
      obtain ⟨c2', h3, _⟩ := hel 0 (by omega)
      rw [cellsA] at h1 h3
      obtain ⟨_, hlen, hcell⟩ := World.cells?_some h1
      obtain ⟨_, hlen3, hcell3⟩ := World.cells?_some h3
      have hspot : a.spot = none := by
        have := hcell3 0 (by omega)
        simpa [Addr.add] using World.cell?_spot (this.trans (List.getElem?_eq_getElem (by omega)))
      obtain ⟨xs, kk, _, _, _, hxl, hfld⟩ := DataW.trod_struct Try.underlying34 h2
      have hg : ∀ j, j < 3 → ∃ y, xs[j]? = some y := fun j hj => ⟨_, List.getElem?_eq_getElem (by rw [hxl]; exact hj)⟩
      obtain ⟨y0, k0⟩ := hg 0 (by omega)
      obtain ⟨y1, k1⟩ := hg 1 (by omega)
      obtain ⟨y2, k2⟩ := hg 2 (by omega)
      obtain ⟨a0, e0, _, _⟩ := DataW.trod_int Try.underlying3 ((hfld 0 _ rfl).trans k0)
      obtain ⟨a1, e1, _, _⟩ := DataW.trod_int Try.underlying3 ((hfld 1 _ rfl).trans k1)
      obtain ⟨a2, e2, _, _⟩ := DataW.trod_int Try.underlying3 ((hfld 2 _ rfl).trans k2)
      have g : ∀ j z, (cs'.drop j).take (Try.prog.cellsOf 3) = [z] → cs'[j]? = some z := fun j z hz => by
        rw [cellsI] at hz
        have : ((cs'.drop j).take 1)[0]? = some z := by rw [hz]; rfl
        rw [List.getElem?_take, if_pos (by omega), List.getElem?_drop] at this
        simpa using this
      have ad : ∀ j, (a.add (i * 3)).add j = ⟨a.block, a.off + i * 3 + j, none⟩ := fun j => by
        rw [Go.Deep.add_add]
        unfold Addr.add
        by_cases c : i * 3 + j = 0
        · rw [if_pos c]
          have : i * 3 = 0 ∧ j = 0 := by omega
          obtain ⟨bb, oo, ss⟩ := a
          simp only at hspot
          subst hspot
          simp [this.1, this.2]
        · rw [if_neg c]; simp; try omega
      have f0 : cs'[0]? = some (.int .i64 a0) := g 0 _ e0
      have f1 : cs'[1]? = some (.int .i64 a1) := g 1 _ e1
      have f2 : cs'[2]? = some (.int .i64 a2) := g 2 _ e2
      have c0 := hcell 0 (by omega)
      have c1 := hcell 1 (by omega)
      have c2 := hcell 2 (by omega)
      rw [ad, f0] at c0
      rw [ad, f1] at c1
      rw [ad, f2] at c2
      exact ⟨(a0, a1, a2), hspot, (by have := lt_of_cell c0; exact this), c0, c1, c2⟩
    obtain ⟨q, hq⟩ := Go.Deep.choose_lt each
    refine ⟨some a, len, cap, fun i => (q i).1, fun i => (q i).2.1, fun i => (q i).2.2, rfl, by omega, fun i hi => ?_⟩
    obtain ⟨s, l, c0, c1, c2⟩ := hq i hi
    obtain ⟨bb, oo, ss⟩ := a
    simp only at s
    subst s
    exact ⟨bb, oo, rfl, l, c0, c1, c2⟩
end Go.Proofs.Ytebmnnliaeollaa
