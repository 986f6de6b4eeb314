/- The document's Reckon. -/
import Derived.Test.YtcieglidghnidaaA7
import Derived.Test.YtcieglidghnidaaA8
import Derived.Test.YtcieglidghnidaaRdoAll
namespace Go.Proofs.Ytcieglidghnidaa
open Go.ChangeShapes Go.WideShapes Go.ChangeAt Go.RowKit Go.Maps
set_option linter.unusedSimpArgs false
set_option linter.unusedVariables false

theorem drewN_alloc2 (w : World) (A B : Obj) (n : Nat) : ((w.alloc A).alloc B).drewN n = ((w.drewN n).alloc A).alloc B := rfl
theorem reg_yes (x : Int) (h : 0 ≤ x ∧ x < 4) (w : World) : Calls Try.prog 24 #[.int .i64 x] w fun e w' => e = .returned (.bool true) ∧ w' = w := by
  have q := reg_any x w
  rw [decide_eq_true h] at q
  exact q
theorem reg_no (x : Int) (h : ¬ (0 ≤ x ∧ x < 4)) (w : World) : Calls Try.prog 24 #[.int .i64 x] w fun e w' => e = .returned (.bool false) ∧ w' = w := by
  have q := reg_any x w
  rw [decide_eq_false h] at q
  exact q
set_option maxHeartbeats 4000000 in
theorem rreckon_n (r0 r1 r2 r3 t en : Int) (i : Bool) (a c s0 s1 s2 s3 : Int) (op x y z : Int) (h : ¬ (0 ≤ x ∧ x < 4)) (w : World) : Calls Try.prog 20 #[(St.mk r0 r1 r2 r3 t en i a c s0 s1 s2 s3).val, .int .i64 op, .int .i64 x, .int .i64 y, .int .i64 z] w fun e w' => e = .returned (.tuple #[(St.mk r0 r1 r2 r3 t en i a c s0 s1 s2 s3).val, .int .i64 1]) ∧ Below w.heap.size w w' := by
  have Rx : Hid (∀ W : World, Calls Try.prog 24 #[.int .i64 x] W fun e w' => e = .returned (.bool false) ∧ w' = W) := fun W => reg_no x (by omega) W
  go_enter Try.func20, Try.ntmps20
  go_wp2_with fail
  refine (Rx.out _).mono ?_
  rintro e u ⟨rfl, hu⟩
  subst hu
  go_wp2_with fail
  go_returns
  exact ⟨rfl, by repeat (first | exact Below.refl _ _ | refine below_new ?_ _ | refine below_drew ?_)⟩
set_option maxHeartbeats 4000000 in
theorem rreckon_yn (r0 r1 r2 r3 t en : Int) (i : Bool) (a c s0 s1 s2 s3 : Int) (op x y z : Int) (h : 0 ≤ x ∧ x < 4) (h2 : ¬ (0 ≤ y ∧ y < 4)) (w : World) : Calls Try.prog 20 #[(St.mk r0 r1 r2 r3 t en i a c s0 s1 s2 s3).val, .int .i64 op, .int .i64 x, .int .i64 y, .int .i64 z] w fun e w' => e = .returned (.tuple #[(St.mk r0 r1 r2 r3 t en i a c s0 s1 s2 s3).val, .int .i64 1]) ∧ Below w.heap.size w w' := by
  have Rx : Hid (∀ W : World, Calls Try.prog 24 #[.int .i64 x] W fun e w' => e = .returned (.bool true) ∧ w' = W) := fun W => reg_yes x (by omega) W
  have Ry : Hid (∀ W : World, Calls Try.prog 24 #[.int .i64 y] W fun e w' => e = .returned (.bool false) ∧ w' = W) := fun W => reg_no y (by omega) W
  go_enter Try.func20, Try.ntmps20
  go_wp2_with fail
  refine (Rx.out _).mono ?_
  rintro e u ⟨rfl, hu⟩
  subst hu
  go_wp2_with fail
  refine (Ry.out _).mono ?_
  rintro e u ⟨rfl, hu⟩
  subst hu
  go_wp2_with fail
  go_returns
  exact ⟨rfl, by repeat (first | exact Below.refl _ _ | refine below_new ?_ _ | refine below_drew ?_)⟩
set_option maxHeartbeats 4000000 in
theorem rreckon_yyn (r0 r1 r2 r3 t en : Int) (i : Bool) (a c s0 s1 s2 s3 : Int) (op x y z : Int) (h : 0 ≤ x ∧ x < 4) (h2 : 0 ≤ y ∧ y < 4) (h3 : ¬ (0 ≤ z ∧ z < 4)) (w : World) : Calls Try.prog 20 #[(St.mk r0 r1 r2 r3 t en i a c s0 s1 s2 s3).val, .int .i64 op, .int .i64 x, .int .i64 y, .int .i64 z] w fun e w' => e = .returned (.tuple #[(St.mk r0 r1 r2 r3 t en i a c s0 s1 s2 s3).val, .int .i64 1]) ∧ Below w.heap.size w w' := by
  have Rx : Hid (∀ W : World, Calls Try.prog 24 #[.int .i64 x] W fun e w' => e = .returned (.bool true) ∧ w' = W) := fun W => reg_yes x (by omega) W
  have Ry : Hid (∀ W : World, Calls Try.prog 24 #[.int .i64 y] W fun e w' => e = .returned (.bool true) ∧ w' = W) := fun W => reg_yes y (by omega) W
  have Rz : Hid (∀ W : World, Calls Try.prog 24 #[.int .i64 z] W fun e w' => e = .returned (.bool false) ∧ w' = W) := fun W => reg_no z (by omega) W
  go_enter Try.func20, Try.ntmps20
  go_wp2_with fail
  refine (Rx.out _).mono ?_
  rintro e u ⟨rfl, hu⟩
  subst hu
  go_wp2_with fail
  refine (Ry.out _).mono ?_
  rintro e u ⟨rfl, hu⟩
  subst hu
  go_wp2_with fail
  refine (Rz.out _).mono ?_
  rintro e u ⟨rfl, hu⟩
  subst hu
  go_wp2_with fail
  go_returns
  exact ⟨rfl, by repeat (first | exact Below.refl _ _ | refine below_new ?_ _ | refine below_drew ?_)⟩
theorem rreckon_no (r0 r1 r2 r3 t en : Int) (i : Bool) (a c s0 s1 s2 s3 : Int) (op x y z : Int) (h : ¬ ((0 ≤ x ∧ x < 4) ∧ (0 ≤ y ∧ y < 4) ∧ (0 ≤ z ∧ z < 4))) (w : World) : Calls Try.prog 20 #[(St.mk r0 r1 r2 r3 t en i a c s0 s1 s2 s3).val, .int .i64 op, .int .i64 x, .int .i64 y, .int .i64 z] w fun e w' => e = .returned (.tuple #[(St.mk r0 r1 r2 r3 t en i a c s0 s1 s2 s3).val, .int .i64 1]) ∧ Below w.heap.size w w' := by
  by_cases h1 : 0 ≤ x ∧ x < 4
  · by_cases h2 : 0 ≤ y ∧ y < 4
    · exact rreckon_yyn r0 r1 r2 r3 t en i a c s0 s1 s2 s3 op x y z h1 h2 (by omega) w
    · exact rreckon_yn r0 r1 r2 r3 t en i a c s0 s1 s2 s3 op x y z h1 h2 w
  · exact rreckon_n r0 r1 r2 r3 t en i a c s0 s1 s2 s3 op x y z h1 w
set_option maxHeartbeats 8000000 in
theorem rreckon_e (r0 r1 r2 r3 t en : Int) (i : Bool) (a c s0 s1 s2 s3 : Int) (op : Int) (ka kb : Nat) (la : ka < 4) (lb : kb < 4) (z : Int) (hz : 0 ≤ z ∧ z < 4) (ra rb : Int) (hra : [r0, r1, r2, r3][ka]? = some ra) (hrb : [r0, r1, r2, r3][kb]? = some rb) (X X2 : Int) (E : Int) (hE : E ≠ 0)
    (DO : Hid (∀ W : World, Calls Try.prog 25 #[.int .i64 op, .int .u64 ra, .int .u64 rb] W fun e w' => e = .returned (.tuple #[.int .u64 X, .int .i64 X2, .int .i64 E]) ∧ ∃ n, w' = W.drewN n)) (w : World) :
    Calls Try.prog 20 #[(St.mk r0 r1 r2 r3 t en i a c s0 s1 s2 s3).val, .int .i64 op, .int .i64 (ka : Int), .int .i64 (kb : Int), .int .i64 z] w fun e w' => e = .returned (.tuple #[(St.mk r0 r1 r2 r3 t en i a c s0 s1 s2 s3).val, .int .i64 E]) ∧ Below w.heap.size w w' := by
  have Ra : Hid (∀ W : World, Calls Try.prog 24 #[.int .i64 (ka : Int)] W fun e w' => e = .returned (.bool true) ∧ w' = W) := fun W => reg_yes ka (by omega) W
  have Rb : Hid (∀ W : World, Calls Try.prog 24 #[.int .i64 (kb : Int)] W fun e w' => e = .returned (.bool true) ∧ w' = W) := fun W => reg_yes kb (by omega) W
  have Rc : Hid (∀ W : World, Calls Try.prog 24 #[.int .i64 z] W fun e w' => e = .returned (.bool true) ∧ w' = W) := fun W => reg_yes z (by omega) W
  have g : ∀ (k : Nat) (v : Int), k < 4 → [r0, r1, r2, r3][k]? = some v → ([.int .u64 r0, .int .u64 r1, .int .u64 r2, .int .u64 r3, .int .i64 t, .int .u64 en, .bool i, .int .u64 a, .int .i64 c, .int .u64 s0, .int .u64 s1, .int .u64 s2, .int .u64 s3] : List Value)[k]? = some (.int .u64 v) := fun k v hk hv => by
    match k, hk with
    | 0, _ => simp at hv; simp [hv]
    | 1, _ => simp at hv; simp [hv]
    | 2, _ => simp at hv; simp [hv]
    | 3, _ => simp at hv; simp [hv]
  have GA : Hid (([.int .u64 r0, .int .u64 r1, .int .u64 r2, .int .u64 r3, .int .i64 t, .int .u64 en, .bool i, .int .u64 a, .int .i64 c, .int .u64 s0, .int .u64 s1, .int .u64 s2, .int .u64 s3] : List Value)[ka]? = some (.int .u64 ra)) := g ka ra la hra
  have GB : Hid (([.int .u64 r0, .int .u64 r1, .int .u64 r2, .int .u64 r3, .int .i64 t, .int .u64 en, .bool i, .int .u64 a, .int .i64 c, .int .u64 s0, .int .u64 s1, .int .u64 s2, .int .u64 s3] : List Value)[kb]? = some (.int .u64 rb)) := g kb rb lb hrb
  clear g hra hrb
  have d1 : decide ((ka : Int) < 0) = false := by simp
  have d2 : decide ((ka : Int) < 4) = true := by simp; omega
  have d3 : decide ((kb : Int) < 0) = false := by simp
  have d4 : decide ((kb : Int) < 4) = true := by simp; omega
  have e0 : (E == 0) = false := by simpa using hE
  have e1 : (E != 0) = true := by simpa using hE
  go_enter Try.func20, Try.ntmps20
  go_wp2_with fail
  refine (Ra.out _).mono ?_
  rintro e u ⟨rfl, hu⟩
  subst hu
  go_wp2_with fail
  refine (Rb.out _).mono ?_
  rintro e u ⟨rfl, hu⟩
  subst hu
  go_wp2_with fail
  refine (Rc.out _).mono ?_
  rintro e u ⟨rfl, hu⟩
  have HU : Hid (u = _) := hu
  have ca : u.cell? ⟨w.heap.size, ka, none⟩ = some (.int .u64 ra) := by
    rw [hu, Blk.cell ((Blk.made _ _ _).below (Go.Joins.below_alloc1 _ _))]; exact GA.out
  have cb : u.cell? ⟨w.heap.size, kb, none⟩ = some (.int .u64 rb) := by
    rw [hu, Blk.cell ((Blk.made _ _ _).below (Go.Joins.below_alloc1 _ _))]; exact GB.out
  clear hu
  go_wp2_with fail
  go_quiet ((go_at_call 25; refine Calls.quiet_of (DO.out _)))
  have hu := HU.out
  clear HU ca cb
  subst hu
  rw [drewN_alloc2]
  generalize hw2 : w.drewN nq = w2
  have hsz : w.heap.size = w2.heap.size := by rw [← hw2]; rfl
  have BB : Hid (∀ W, Below w2.heap.size w2 W → Below w.heap.size w W) := fun W h => by
    subst hw2
    exact ⟨h.os, h.tape, h.output, h.size, h.block⟩
  rw [hsz]
  clear hsz hw2
  go_wp2_with fail
  go_returns
  exact ⟨rfl, BB.out _ (by repeat (first | exact Below.refl _ _ | refine below_new ?_ _ | refine below_drew ?_))⟩
end Go.Proofs.Ytcieglidghnidaa
