/- Reckon. -/
import Derived.Test.YtcieglidghnidaaAM
import Derived.Test.YtcieglidghnidaaDo
namespace Go.Proofs.Ytcieglidghnidaa
open Go.ChangeShapes Go.WideShapes Go.ChangeAt Go.RowKit Go.Maps
set_option linter.unusedSimpArgs false
set_option linter.unusedVariables false

theorem drewN_alloc3 (w : World) (A B C : Obj) (n : Nat) : (((w.alloc A).alloc B).alloc C).drewN n = (((w.drewN n).alloc A).alloc B).alloc C := rfl
theorem below_drewN {n : Nat} {w W : World} (h : Below n w W) (k : Nat) : Below n w (W.drewN k) := ⟨h.os, h.tape, h.output, h.size, h.block⟩
set_option maxHeartbeats 4000000 in
theorem reckon_no (r0 r1 r2 r3 t en : Int) (i : Bool) (a c s0 s1 s2 s3 : Int) (op x y z : Int) (h : ¬ ((0 ≤ x ∧ x < 4) ∧ (0 ≤ y ∧ y < 4) ∧ (0 ≤ z ∧ z < 4))) (w : World) : Calls Try.prog 12 #[(St.mk r0 r1 r2 r3 t en i a c s0 s1 s2 s3).val, .int .i64 op, .int .i64 x, .int .i64 y, .int .i64 z] w fun e w' => e = .returned (.tuple #[(St.mk r0 r1 r2 r3 t en i a c s0 s1 s2 s3).val, .int .i64 1]) ∧ Below w.heap.size w w' := by
  have C : Hid (∀ (b : Nat) (w : World), w.cell? ⟨b, 0, none⟩ = some (.int .i64 x) → w.cell? ⟨b, 1, none⟩ = some (.int .i64 y) → w.cell? ⟨b, 2, none⟩ = some (.int .i64 z) → Calls Try.prog 21 #[.slice (some ⟨b, 0, none⟩) 3 3] w fun e w' => e = .returned (.bool false) ∧ w' = w) := fun b w k0 k1 k2 => by
    have q := regs3 x y z b w k0 k1 k2
    rw [decide_eq_false h] at q
    exact q
  go_enter Try.func12, Try.ntmps12
  go_wp2_with fail
  refine (C.out _ _ ?c ?d ?f).mono ?_
  case c => exact new3 _ _ _ _ _ _
  case d => exact new3 _ _ _ _ _ _
  case f => exact new3 _ _ _ _ _ _
  rintro e u ⟨rfl, hu⟩
  subst hu
  go_wp2_with fail
  go_returns
  exact ⟨rfl, by repeat (first | exact Below.refl _ _ | refine below_new ?_ _ | refine below_drew ?_ | refine below_drewN ?_ _)⟩
theorem made2_0 (w : World) (C D : List Value) (t s : TypeId) : Blk ((w.alloc (.cells C.toArray t)).alloc (.cells D.toArray s)) w.heap.size C t := (Blk.made w C t).below (Go.Joins.below_alloc1 _ _)
theorem made2_1 (w : World) (C D : List Value) (t s : TypeId) : Blk ((w.alloc (.cells C.toArray t)).alloc (.cells D.toArray s)) (w.heap.size + 1) D s := by
  have h := Blk.made (w.alloc (.cells C.toArray t)) D s
  rwa [World.size_alloc] at h
theorem made3_0 (w : World) (C D E : List Value) (t s r : TypeId) : Blk (((w.alloc (.cells C.toArray t)).alloc (.cells D.toArray s)).alloc (.cells E.toArray r)) w.heap.size C t := (made2_0 w C D t s).below (Go.Joins.below_alloc1 _ _)
theorem made3_1 (w : World) (C D E : List Value) (t s r : TypeId) : Blk (((w.alloc (.cells C.toArray t)).alloc (.cells D.toArray s)).alloc (.cells E.toArray r)) (w.heap.size + 1) D s := (made2_1 w C D t s).below (Go.Joins.below_alloc1 _ _)
theorem made3_2 (w : World) (C D E : List Value) (t s r : TypeId) : Blk (((w.alloc (.cells C.toArray t)).alloc (.cells D.toArray s)).alloc (.cells E.toArray r)) (w.heap.size + 1 + 1) E r := by
  have h := Blk.made ((w.alloc (.cells C.toArray t)).alloc (.cells D.toArray s)) E r
  rwa [World.size_alloc, World.size_alloc] at h
set_option maxHeartbeats 8000000 in
theorem reckon_e (r0 r1 r2 r3 t en : Int) (i : Bool) (a c s0 s1 s2 s3 : Int) (op : Int) (ka kb : Nat) (la : ka < 4) (lb : kb < 4) (z : Int) (hz : 0 ≤ z ∧ z < 4) (ra rb : Int) (hra : [r0, r1, r2, r3][ka]? = some ra) (hrb : [r0, r1, r2, r3][kb]? = some rb) (X X2 : Int) (E : Int) (hE : E ≠ 0)
    (DO : Hid (∀ W : World, Calls Try.prog 13 #[.int .i64 op, .int .u64 ra, .int .u64 rb] W fun e w' => e = .returned (.tuple #[.int .u64 X, .int .i64 X2, .int .i64 E]) ∧ ∃ n, w' = W.drewN n)) (w : World) :
    Calls Try.prog 12 #[(St.mk r0 r1 r2 r3 t en i a c s0 s1 s2 s3).val, .int .i64 op, .int .i64 (ka : Int), .int .i64 (kb : Int), .int .i64 z] w fun e w' => e = .returned (.tuple #[(St.mk r0 r1 r2 r3 t en i a c s0 s1 s2 s3).val, .int .i64 E]) ∧ Below w.heap.size w w' := by
  have C : Hid (∀ (b : Nat) (w : World), w.cell? ⟨b, 0, none⟩ = some (.int .i64 (ka : Int)) → w.cell? ⟨b, 1, none⟩ = some (.int .i64 (kb : Int)) → w.cell? ⟨b, 2, none⟩ = some (.int .i64 z) → Calls Try.prog 21 #[.slice (some ⟨b, 0, none⟩) 3 3] w fun e w' => e = .returned (.bool true) ∧ w' = w) := fun b w k0 k1 k2 => by
    have q := regs3 ka kb z b w k0 k1 k2
    rw [decide_eq_true (by omega)] at q
    exact q
  have g : ∀ (k : Nat) (v : Int), k < 4 → [r0, r1, r2, r3][k]? = some v → ([.int .u64 r0, .int .u64 r1, .int .u64 r2, .int .u64 r3, .int .i64 t, .int .u64 en, .bool i, .int .u64 a, .int .i64 c, .int .u64 s0, .int .u64 s1, .int .u64 s2, .int .u64 s3] : List Value)[k]? = some (.int .u64 v) := fun k v hk hv => by
    match k, hk with
    | 0, _ => simp at hv; simp [hv]
    | 1, _ => simp at hv; simp [hv]
    | 2, _ => simp at hv; simp [hv]
    | 3, _ => simp at hv; simp [hv]
  have GA : Hid (([.int .u64 r0, .int .u64 r1, .int .u64 r2, .int .u64 r3, .int .i64 t, .int .u64 en, .bool i, .int .u64 a, .int .i64 c, .int .u64 s0, .int .u64 s1, .int .u64 s2, .int .u64 s3] : List Value)[ka]? = some (.int .u64 ra)) := g ka ra la hra
  have GB : Hid (([.int .u64 r0, .int .u64 r1, .int .u64 r2, .int .u64 r3, .int .i64 t, .int .u64 en, .bool i, .int .u64 a, .int .i64 c, .int .u64 s0, .int .u64 s1, .int .u64 s2, .int .u64 s3] : List Value)[kb]? = some (.int .u64 rb)) := g kb rb lb hrb
  clear g hra hrb
  have d1 : decide ((ka : Int) < 0) = false := by simp
  have d2 : decide ((ka : Int) < 4) = true := by simp; omega
  have d3 : decide ((kb : Int) < 0) = false := by simp
  have d4 : decide ((kb : Int) < 4) = true := by simp; omega
  have e0 : (E == 0) = false := by simpa using hE
  have e1 : (E != 0) = true := by simpa using hE
  go_enter Try.func12, Try.ntmps12
  go_wp2_with fail
  refine (C.out _ _ ?c ?d ?f).mono ?_
  case c => exact new3 _ _ _ _ _ _
  case d => exact new3 _ _ _ _ _ _
  case f => exact new3 _ _ _ _ _ _
  rintro e u ⟨rfl, hu⟩
  have HU : Hid (u = _) := hu
  have ca : u.cell? ⟨w.heap.size, ka, none⟩ = some (.int .u64 ra) := by
    rw [hu, Blk.cell (made3_0 _ _ _ _ _ _ _)]; exact GA.out
  have cb : u.cell? ⟨w.heap.size, kb, none⟩ = some (.int .u64 rb) := by
    rw [hu, Blk.cell (made3_0 _ _ _ _ _ _ _)]; exact GB.out
  clear hu
  go_wp2_with fail
  go_quiet ((go_at_call 13; refine Calls.quiet_of (DO.out _)))
  have hu := HU.out
  clear HU ca cb
  subst hu
  rw [drewN_alloc3]
  generalize hw2 : w.drewN nq = w2
  have hsz : w.heap.size = w2.heap.size := by rw [← hw2]; rfl
  have BB : Hid (∀ W, Below w2.heap.size w2 W → Below w.heap.size w W) := fun W h => by
    subst hw2
    exact ⟨h.os, h.tape, h.output, h.size, h.block⟩
  rw [hsz]
  clear hsz hw2
  go_wp2_with fail
  go_returns
  exact ⟨rfl, BB.out _ (by repeat (first | exact Below.refl _ _ | refine below_new ?_ _ | refine below_drew ?_ | refine below_drewN ?_ _))⟩
set_option maxHeartbeats 8000000 in
theorem reckon_0 (r0 r1 r2 r3 t en : Int) (i : Bool) (a c s0 s1 s2 s3 : Int) (op : Int) (ka kb : Nat) (la : ka < 4) (lb : kb < 4) (ra rb : Int) (hra : [r0, r1, r2, r3][ka]? = some ra) (hrb : [r0, r1, r2, r3][kb]? = some rb) (X X2 : Int) (O : Int) (hO : bits .or .i64 t X2 = O)
    (DO : Hid (∀ W : World, Calls Try.prog 13 #[.int .i64 op, .int .u64 ra, .int .u64 rb] W fun e w' => e = .returned (.tuple #[.int .u64 X, .int .i64 X2, .int .i64 0]) ∧ ∃ n, w' = W.drewN n)) (w : World) :
    Calls Try.prog 12 #[(St.mk r0 r1 r2 r3 t en i a c s0 s1 s2 s3).val, .int .i64 op, .int .i64 (ka : Int), .int .i64 (kb : Int), .int .i64 0] w fun e w' => e = .returned (.tuple #[(St.mk X r1 r2 r3 O en i a c s0 s1 s2 s3).val, .int .i64 0]) ∧ Below w.heap.size w w' := by
  have C : Hid (∀ (b : Nat) (w : World), w.cell? ⟨b, 0, none⟩ = some (.int .i64 (ka : Int)) → w.cell? ⟨b, 1, none⟩ = some (.int .i64 (kb : Int)) → w.cell? ⟨b, 2, none⟩ = some (.int .i64 0) → Calls Try.prog 21 #[.slice (some ⟨b, 0, none⟩) 3 3] w fun e w' => e = .returned (.bool true) ∧ w' = w) := fun b w k0 k1 k2 => by
    have q := regs3 ka kb 0 b w k0 k1 k2
    rw [decide_eq_true (by omega)] at q
    exact q
  have g : ∀ (k : Nat) (v : Int), k < 4 → [r0, r1, r2, r3][k]? = some v → ([.int .u64 r0, .int .u64 r1, .int .u64 r2, .int .u64 r3, .int .i64 t, .int .u64 en, .bool i, .int .u64 a, .int .i64 c, .int .u64 s0, .int .u64 s1, .int .u64 s2, .int .u64 s3] : List Value)[k]? = some (.int .u64 v) := fun k v hk hv => by
    match k, hk with
    | 0, _ => simp at hv; simp [hv]
    | 1, _ => simp at hv; simp [hv]
    | 2, _ => simp at hv; simp [hv]
    | 3, _ => simp at hv; simp [hv]
  have GA : Hid (([.int .u64 r0, .int .u64 r1, .int .u64 r2, .int .u64 r3, .int .i64 t, .int .u64 en, .bool i, .int .u64 a, .int .i64 c, .int .u64 s0, .int .u64 s1, .int .u64 s2, .int .u64 s3] : List Value)[ka]? = some (.int .u64 ra)) := g ka ra la hra
  have GB : Hid (([.int .u64 r0, .int .u64 r1, .int .u64 r2, .int .u64 r3, .int .i64 t, .int .u64 en, .bool i, .int .u64 a, .int .i64 c, .int .u64 s0, .int .u64 s1, .int .u64 s2, .int .u64 s3] : List Value)[kb]? = some (.int .u64 rb)) := g kb rb lb hrb
  clear g hra hrb
  have d1 : decide ((ka : Int) < 0) = false := by simp
  have d2 : decide ((ka : Int) < 4) = true := by simp; omega
  have d3 : decide ((kb : Int) < 0) = false := by simp
  have d4 : decide ((kb : Int) < 4) = true := by simp; omega
  go_enter Try.func12, Try.ntmps12
  go_wp2_with fail
  refine (C.out _ _ ?c ?d ?f).mono ?_
  case c => exact new3 _ _ _ _ _ _
  case d => exact new3 _ _ _ _ _ _
  case f => exact new3 _ _ _ _ _ _
  rintro e u ⟨rfl, hu⟩
  have HU : Hid (u = _) := hu
  have ca : u.cell? ⟨w.heap.size, ka, none⟩ = some (.int .u64 ra) := by
    rw [hu, Blk.cell (made3_0 _ _ _ _ _ _ _)]; exact GA.out
  have cb : u.cell? ⟨w.heap.size, kb, none⟩ = some (.int .u64 rb) := by
    rw [hu, Blk.cell (made3_0 _ _ _ _ _ _ _)]; exact GB.out
  clear hu
  go_wp2_with fail
  go_quiet ((go_at_call 13; refine Calls.quiet_of (DO.out _)))
  have hu := HU.out
  clear HU ca cb
  subst hu
  rw [drewN_alloc3]
  generalize hw2 : w.drewN nq = w2
  have hsz : w.heap.size = w2.heap.size := by rw [← hw2]; rfl
  have BB : Hid (∀ W, Below w2.heap.size w2 W → Below w.heap.size w W) := fun W h => by
    subst hw2
    exact ⟨h.os, h.tape, h.output, h.size, h.block⟩
  rw [hsz]
  clear hsz hw2
  go_wp2_with fail
  go_returns
  exact ⟨rfl, BB.out _ (by repeat (first | exact Below.refl _ _ | refine below_new ?_ _ | refine below_drew ?_ | refine below_drewN ?_ _))⟩
set_option maxHeartbeats 8000000 in
theorem reckon_1 (r0 r1 r2 r3 t en : Int) (i : Bool) (a c s0 s1 s2 s3 : Int) (op : Int) (ka kb : Nat) (la : ka < 4) (lb : kb < 4) (ra rb : Int) (hra : [r0, r1, r2, r3][ka]? = some ra) (hrb : [r0, r1, r2, r3][kb]? = some rb) (X X2 : Int) (O : Int) (hO : bits .or .i64 t X2 = O)
    (DO : Hid (∀ W : World, Calls Try.prog 13 #[.int .i64 op, .int .u64 ra, .int .u64 rb] W fun e w' => e = .returned (.tuple #[.int .u64 X, .int .i64 X2, .int .i64 0]) ∧ ∃ n, w' = W.drewN n)) (w : World) :
    Calls Try.prog 12 #[(St.mk r0 r1 r2 r3 t en i a c s0 s1 s2 s3).val, .int .i64 op, .int .i64 (ka : Int), .int .i64 (kb : Int), .int .i64 1] w fun e w' => e = .returned (.tuple #[(St.mk r0 X r2 r3 O en i a c s0 s1 s2 s3).val, .int .i64 0]) ∧ Below w.heap.size w w' := by
  have C : Hid (∀ (b : Nat) (w : World), w.cell? ⟨b, 0, none⟩ = some (.int .i64 (ka : Int)) → w.cell? ⟨b, 1, none⟩ = some (.int .i64 (kb : Int)) → w.cell? ⟨b, 2, none⟩ = some (.int .i64 1) → Calls Try.prog 21 #[.slice (some ⟨b, 0, none⟩) 3 3] w fun e w' => e = .returned (.bool true) ∧ w' = w) := fun b w k0 k1 k2 => by
    have q := regs3 ka kb 1 b w k0 k1 k2
    rw [decide_eq_true (by omega)] at q
    exact q
  have g : ∀ (k : Nat) (v : Int), k < 4 → [r0, r1, r2, r3][k]? = some v → ([.int .u64 r0, .int .u64 r1, .int .u64 r2, .int .u64 r3, .int .i64 t, .int .u64 en, .bool i, .int .u64 a, .int .i64 c, .int .u64 s0, .int .u64 s1, .int .u64 s2, .int .u64 s3] : List Value)[k]? = some (.int .u64 v) := fun k v hk hv => by
    match k, hk with
    | 0, _ => simp at hv; simp [hv]
    | 1, _ => simp at hv; simp [hv]
    | 2, _ => simp at hv; simp [hv]
    | 3, _ => simp at hv; simp [hv]
  have GA : Hid (([.int .u64 r0, .int .u64 r1, .int .u64 r2, .int .u64 r3, .int .i64 t, .int .u64 en, .bool i, .int .u64 a, .int .i64 c, .int .u64 s0, .int .u64 s1, .int .u64 s2, .int .u64 s3] : List Value)[ka]? = some (.int .u64 ra)) := g ka ra la hra
  have GB : Hid (([.int .u64 r0, .int .u64 r1, .int .u64 r2, .int .u64 r3, .int .i64 t, .int .u64 en, .bool i, .int .u64 a, .int .i64 c, .int .u64 s0, .int .u64 s1, .int .u64 s2, .int .u64 s3] : List Value)[kb]? = some (.int .u64 rb)) := g kb rb lb hrb
  clear g hra hrb
  have d1 : decide ((ka : Int) < 0) = false := by simp
  have d2 : decide ((ka : Int) < 4) = true := by simp; omega
  have d3 : decide ((kb : Int) < 0) = false := by simp
  have d4 : decide ((kb : Int) < 4) = true := by simp; omega
  go_enter Try.func12, Try.ntmps12
  go_wp2_with fail
  refine (C.out _ _ ?c ?d ?f).mono ?_
  case c => exact new3 _ _ _ _ _ _
  case d => exact new3 _ _ _ _ _ _
  case f => exact new3 _ _ _ _ _ _
  rintro e u ⟨rfl, hu⟩
  have HU : Hid (u = _) := hu
  have ca : u.cell? ⟨w.heap.size, ka, none⟩ = some (.int .u64 ra) := by
    rw [hu, Blk.cell (made3_0 _ _ _ _ _ _ _)]; exact GA.out
  have cb : u.cell? ⟨w.heap.size, kb, none⟩ = some (.int .u64 rb) := by
    rw [hu, Blk.cell (made3_0 _ _ _ _ _ _ _)]; exact GB.out
  clear hu
  go_wp2_with fail
  go_quiet ((go_at_call 13; refine Calls.quiet_of (DO.out _)))
  have hu := HU.out
  clear HU ca cb
  subst hu
  rw [drewN_alloc3]
  generalize hw2 : w.drewN nq = w2
  have hsz : w.heap.size = w2.heap.size := by rw [← hw2]; rfl
  have BB : Hid (∀ W, Below w2.heap.size w2 W → Below w.heap.size w W) := fun W h => by
    subst hw2
    exact ⟨h.os, h.tape, h.output, h.size, h.block⟩
  rw [hsz]
  clear hsz hw2
  go_wp2_with fail
  go_returns
  exact ⟨rfl, BB.out _ (by repeat (first | exact Below.refl _ _ | refine below_new ?_ _ | refine below_drew ?_ | refine below_drewN ?_ _))⟩
set_option maxHeartbeats 8000000 in
theorem reckon_2 (r0 r1 r2 r3 t en : Int) (i : Bool) (a c s0 s1 s2 s3 : Int) (op : Int) (ka kb : Nat) (la : ka < 4) (lb : kb < 4) (ra rb : Int) (hra : [r0, r1, r2, r3][ka]? = some ra) (hrb : [r0, r1, r2, r3][kb]? = some rb) (X X2 : Int) (O : Int) (hO : bits .or .i64 t X2 = O)
    (DO : Hid (∀ W : World, Calls Try.prog 13 #[.int .i64 op, .int .u64 ra, .int .u64 rb] W fun e w' => e = .returned (.tuple #[.int .u64 X, .int .i64 X2, .int .i64 0]) ∧ ∃ n, w' = W.drewN n)) (w : World) :
    Calls Try.prog 12 #[(St.mk r0 r1 r2 r3 t en i a c s0 s1 s2 s3).val, .int .i64 op, .int .i64 (ka : Int), .int .i64 (kb : Int), .int .i64 2] w fun e w' => e = .returned (.tuple #[(St.mk r0 r1 X r3 O en i a c s0 s1 s2 s3).val, .int .i64 0]) ∧ Below w.heap.size w w' := by
  have C : Hid (∀ (b : Nat) (w : World), w.cell? ⟨b, 0, none⟩ = some (.int .i64 (ka : Int)) → w.cell? ⟨b, 1, none⟩ = some (.int .i64 (kb : Int)) → w.cell? ⟨b, 2, none⟩ = some (.int .i64 2) → Calls Try.prog 21 #[.slice (some ⟨b, 0, none⟩) 3 3] w fun e w' => e = .returned (.bool true) ∧ w' = w) := fun b w k0 k1 k2 => by
    have q := regs3 ka kb 2 b w k0 k1 k2
    rw [decide_eq_true (by omega)] at q
    exact q
  have g : ∀ (k : Nat) (v : Int), k < 4 → [r0, r1, r2, r3][k]? = some v → ([.int .u64 r0, .int .u64 r1, .int .u64 r2, .int .u64 r3, .int .i64 t, .int .u64 en, .bool i, .int .u64 a, .int .i64 c, .int .u64 s0, .int .u64 s1, .int .u64 s2, .int .u64 s3] : List Value)[k]? = some (.int .u64 v) := fun k v hk hv => by
    match k, hk with
    | 0, _ => simp at hv; simp [hv]
    | 1, _ => simp at hv; simp [hv]
    | 2, _ => simp at hv; simp [hv]
    | 3, _ => simp at hv; simp [hv]
  have GA : Hid (([.int .u64 r0, .int .u64 r1, .int .u64 r2, .int .u64 r3, .int .i64 t, .int .u64 en, .bool i, .int .u64 a, .int .i64 c, .int .u64 s0, .int .u64 s1, .int .u64 s2, .int .u64 s3] : List Value)[ka]? = some (.int .u64 ra)) := g ka ra la hra
  have GB : Hid (([.int .u64 r0, .int .u64 r1, .int .u64 r2, .int .u64 r3, .int .i64 t, .int .u64 en, .bool i, .int .u64 a, .int .i64 c, .int .u64 s0, .int .u64 s1, .int .u64 s2, .int .u64 s3] : List Value)[kb]? = some (.int .u64 rb)) := g kb rb lb hrb
  clear g hra hrb
  have d1 : decide ((ka : Int) < 0) = false := by simp
  have d2 : decide ((ka : Int) < 4) = true := by simp; omega
  have d3 : decide ((kb : Int) < 0) = false := by simp
  have d4 : decide ((kb : Int) < 4) = true := by simp; omega
  go_enter Try.func12, Try.ntmps12
  go_wp2_with fail
  refine (C.out _ _ ?c ?d ?f).mono ?_
  case c => exact new3 _ _ _ _ _ _
  case d => exact new3 _ _ _ _ _ _
  case f => exact new3 _ _ _ _ _ _
  rintro e u ⟨rfl, hu⟩
  have HU : Hid (u = _) := hu
  have ca : u.cell? ⟨w.heap.size, ka, none⟩ = some (.int .u64 ra) := by
    rw [hu, Blk.cell (made3_0 _ _ _ _ _ _ _)]; exact GA.out
  have cb : u.cell? ⟨w.heap.size, kb, none⟩ = some (.int .u64 rb) := by
    rw [hu, Blk.cell (made3_0 _ _ _ _ _ _ _)]; exact GB.out
  clear hu
  go_wp2_with fail
  go_quiet ((go_at_call 13; refine Calls.quiet_of (DO.out _)))
  have hu := HU.out
  clear HU ca cb
  subst hu
  rw [drewN_alloc3]
  generalize hw2 : w.drewN nq = w2
  have hsz : w.heap.size = w2.heap.size := by rw [← hw2]; rfl
  have BB : Hid (∀ W, Below w2.heap.size w2 W → Below w.heap.size w W) := fun W h => by
    subst hw2
    exact ⟨h.os, h.tape, h.output, h.size, h.block⟩
  rw [hsz]
  clear hsz hw2
  go_wp2_with fail
  go_returns
  exact ⟨rfl, BB.out _ (by repeat (first | exact Below.refl _ _ | refine below_new ?_ _ | refine below_drew ?_ | refine below_drewN ?_ _))⟩
set_option maxHeartbeats 8000000 in
theorem reckon_3 (r0 r1 r2 r3 t en : Int) (i : Bool) (a c s0 s1 s2 s3 : Int) (op : Int) (ka kb : Nat) (la : ka < 4) (lb : kb < 4) (ra rb : Int) (hra : [r0, r1, r2, r3][ka]? = some ra) (hrb : [r0, r1, r2, r3][kb]? = some rb) (X X2 : Int) (O : Int) (hO : bits .or .i64 t X2 = O)
    (DO : Hid (∀ W : World, Calls Try.prog 13 #[.int .i64 op, .int .u64 ra, .int .u64 rb] W fun e w' => e = .returned (.tuple #[.int .u64 X, .int .i64 X2, .int .i64 0]) ∧ ∃ n, w' = W.drewN n)) (w : World) :
    Calls Try.prog 12 #[(St.mk r0 r1 r2 r3 t en i a c s0 s1 s2 s3).val, .int .i64 op, .int .i64 (ka : Int), .int .i64 (kb : Int), .int .i64 3] w fun e w' => e = .returned (.tuple #[(St.mk r0 r1 r2 X O en i a c s0 s1 s2 s3).val, .int .i64 0]) ∧ Below w.heap.size w w' := by
  have C : Hid (∀ (b : Nat) (w : World), w.cell? ⟨b, 0, none⟩ = some (.int .i64 (ka : Int)) → w.cell? ⟨b, 1, none⟩ = some (.int .i64 (kb : Int)) → w.cell? ⟨b, 2, none⟩ = some (.int .i64 3) → Calls Try.prog 21 #[.slice (some ⟨b, 0, none⟩) 3 3] w fun e w' => e = .returned (.bool true) ∧ w' = w) := fun b w k0 k1 k2 => by
    have q := regs3 ka kb 3 b w k0 k1 k2
    rw [decide_eq_true (by omega)] at q
    exact q
  have g : ∀ (k : Nat) (v : Int), k < 4 → [r0, r1, r2, r3][k]? = some v → ([.int .u64 r0, .int .u64 r1, .int .u64 r2, .int .u64 r3, .int .i64 t, .int .u64 en, .bool i, .int .u64 a, .int .i64 c, .int .u64 s0, .int .u64 s1, .int .u64 s2, .int .u64 s3] : List Value)[k]? = some (.int .u64 v) := fun k v hk hv => by
    match k, hk with
    | 0, _ => simp at hv; simp [hv]
    | 1, _ => simp at hv; simp [hv]
    | 2, _ => simp at hv; simp [hv]
    | 3, _ => simp at hv; simp [hv]
  have GA : Hid (([.int .u64 r0, .int .u64 r1, .int .u64 r2, .int .u64 r3, .int .i64 t, .int .u64 en, .bool i, .int .u64 a, .int .i64 c, .int .u64 s0, .int .u64 s1, .int .u64 s2, .int .u64 s3] : List Value)[ka]? = some (.int .u64 ra)) := g ka ra la hra
  have GB : Hid (([.int .u64 r0, .int .u64 r1, .int .u64 r2, .int .u64 r3, .int .i64 t, .int .u64 en, .bool i, .int .u64 a, .int .i64 c, .int .u64 s0, .int .u64 s1, .int .u64 s2, .int .u64 s3] : List Value)[kb]? = some (.int .u64 rb)) := g kb rb lb hrb
  clear g hra hrb
  have d1 : decide ((ka : Int) < 0) = false := by simp
  have d2 : decide ((ka : Int) < 4) = true := by simp; omega
  have d3 : decide ((kb : Int) < 0) = false := by simp
  have d4 : decide ((kb : Int) < 4) = true := by simp; omega
  go_enter Try.func12, Try.ntmps12
  go_wp2_with fail
  refine (C.out _ _ ?c ?d ?f).mono ?_
  case c => exact new3 _ _ _ _ _ _
  case d => exact new3 _ _ _ _ _ _
  case f => exact new3 _ _ _ _ _ _
  rintro e u ⟨rfl, hu⟩
  have HU : Hid (u = _) := hu
  have ca : u.cell? ⟨w.heap.size, ka, none⟩ = some (.int .u64 ra) := by
    rw [hu, Blk.cell (made3_0 _ _ _ _ _ _ _)]; exact GA.out
  have cb : u.cell? ⟨w.heap.size, kb, none⟩ = some (.int .u64 rb) := by
    rw [hu, Blk.cell (made3_0 _ _ _ _ _ _ _)]; exact GB.out
  clear hu
  go_wp2_with fail
  go_quiet ((go_at_call 13; refine Calls.quiet_of (DO.out _)))
  have hu := HU.out
  clear HU ca cb
  subst hu
  rw [drewN_alloc3]
  generalize hw2 : w.drewN nq = w2
  have hsz : w.heap.size = w2.heap.size := by rw [← hw2]; rfl
  have BB : Hid (∀ W, Below w2.heap.size w2 W → Below w.heap.size w W) := fun W h => by
    subst hw2
    exact ⟨h.os, h.tape, h.output, h.size, h.block⟩
  rw [hsz]
  clear hsz hw2
  go_wp2_with fail
  go_returns
  exact ⟨rfl, BB.out _ (by repeat (first | exact Below.refl _ _ | refine below_new ?_ _ | refine below_drew ?_ | refine below_drewN ?_ _))⟩
end Go.Proofs.Ytcieglidghnidaa
