/- The document's Reckon. -/
import Derived.Test.YtcieglidghnidaaA9
namespace Go.Proofs.Ytcieglidghnidaa
open Go.ChangeShapes Go.WideShapes Go.ChangeAt Go.RowKit Go.Maps
set_option linter.unusedSimpArgs false
set_option linter.unusedVariables false

set_option maxHeartbeats 8000000 in
theorem rreckon_0 (r0 r1 r2 r3 t en : Int) (i : Bool) (a c s0 s1 s2 s3 : Int) (op : Int) (ka kb : Nat) (la : ka < 4) (lb : kb < 4) (ra rb : Int) (hra : [r0, r1, r2, r3][ka]? = some ra) (hrb : [r0, r1, r2, r3][kb]? = some rb) (X X2 : Int) (O : Int) (hO : tell X2 (tell X2 (tell X2 t 1) 2) 4 = O)
    (DO : Hid (∀ W : World, Calls Try.prog 25 #[.int .i64 op, .int .u64 ra, .int .u64 rb] W fun e w' => e = .returned (.tuple #[.int .u64 X, .int .i64 X2, .int .i64 0]) ∧ ∃ n, w' = W.drewN n)) (w : World) :
    Calls Try.prog 20 #[(St.mk r0 r1 r2 r3 t en i a c s0 s1 s2 s3).val, .int .i64 op, .int .i64 (ka : Int), .int .i64 (kb : Int), .int .i64 0] w fun e w' => e = .returned (.tuple #[(St.mk X r1 r2 r3 O en i a c s0 s1 s2 s3).val, .int .i64 0]) ∧ Below w.heap.size w w' := by
  have Ra : Hid (∀ W : World, Calls Try.prog 24 #[.int .i64 (ka : Int)] W fun e w' => e = .returned (.bool true) ∧ w' = W) := fun W => reg_yes ka (by omega) W
  have Rb : Hid (∀ W : World, Calls Try.prog 24 #[.int .i64 (kb : Int)] W fun e w' => e = .returned (.bool true) ∧ w' = W) := fun W => reg_yes kb (by omega) W
  have Rc : Hid (∀ W : World, Calls Try.prog 24 #[.int .i64 0] W fun e w' => e = .returned (.bool true) ∧ w' = W) := fun W => reg_yes 0 (by omega) W
  have g : ∀ (k : Nat) (v : Int), k < 4 → [r0, r1, r2, r3][k]? = some v → ([.int .u64 r0, .int .u64 r1, .int .u64 r2, .int .u64 r3, .int .i64 t, .int .u64 en, .bool i, .int .u64 a, .int .i64 c, .int .u64 s0, .int .u64 s1, .int .u64 s2, .int .u64 s3] : List Value)[k]? = some (.int .u64 v) := fun k v hk hv => by
    match k, hk with
    | 0, _ => simp at hv; simp [hv]
    | 1, _ => simp at hv; simp [hv]
    | 2, _ => simp at hv; simp [hv]
    | 3, _ => simp at hv; simp [hv]
  have GA : Hid (([.int .u64 r0, .int .u64 r1, .int .u64 r2, .int .u64 r3, .int .i64 t, .int .u64 en, .bool i, .int .u64 a, .int .i64 c, .int .u64 s0, .int .u64 s1, .int .u64 s2, .int .u64 s3] : List Value)[ka]? = some (.int .u64 ra)) := g ka ra la hra
  have GB : Hid (([.int .u64 r0, .int .u64 r1, .int .u64 r2, .int .u64 r3, .int .i64 t, .int .u64 en, .bool i, .int .u64 a, .int .i64 c, .int .u64 s0, .int .u64 s1, .int .u64 s2, .int .u64 s3] : List Value)[kb]? = some (.int .u64 rb)) := g kb rb lb hrb
  clear g hra hrb
  have d1 : decide ((ka : Int) < 0) = false := by simp
  have d2 : decide ((ka : Int) < 4) = true := by simp; omega
  have d3 : decide ((kb : Int) < 0) = false := by simp
  have d4 : decide ((kb : Int) < 4) = true := by simp; omega
  go_enter Try.func20, Try.ntmps20
  go_wp2_with fail
  refine (Ra.out _).mono ?_
  rintro e u ⟨rfl, hu⟩
  subst hu
  go_wp2_with fail
  refine (Rb.out _).mono ?_
  rintro e u ⟨rfl, hu⟩
  subst hu
  go_wp2_with fail
  refine (Rc.out _).mono ?_
  rintro e u ⟨rfl, hu⟩
  have HU : Hid (u = _) := hu
  have ca : u.cell? ⟨w.heap.size, ka, none⟩ = some (.int .u64 ra) := by
    rw [hu, Blk.cell ((Blk.made _ _ _).below (Go.Joins.below_alloc1 _ _))]; exact GA.out
  have cb : u.cell? ⟨w.heap.size, kb, none⟩ = some (.int .u64 rb) := by
    rw [hu, Blk.cell ((Blk.made _ _ _).below (Go.Joins.below_alloc1 _ _))]; exact GB.out
  clear hu
  go_wp2_with fail
  go_quiet ((go_at_call 25; refine Calls.quiet_of (DO.out _)))
  have hu := HU.out
  clear HU ca cb
  subst hu
  rw [drewN_alloc2]
  generalize hw2 : w.drewN nq = w2
  have hsz : w.heap.size = w2.heap.size := by rw [← hw2]; rfl
  have BB : Hid (∀ W, Below w2.heap.size w2 W → Below w.heap.size w W) := fun W h => by
    subst hw2
    exact ⟨h.os, h.tape, h.output, h.size, h.block⟩
  rw [hsz]
  clear hsz hw2
  go_wp2_with fail
  go_loopw [55] (fun v W => ∃ (k : Nat) (τ : Int), ((k = 0 ∧ τ = t) ∨ (k = 1 ∧ τ = tell X2 t 1) ∨ (k = 2 ∧ τ = tell X2 (tell X2 t 1) 2) ∨ (k = 3 ∧ τ = tell X2 (tell X2 (tell X2 t 1) 2) 4)) ∧ v = .int .i64 k ∧ W = ((w2.alloc (.cells #[.int .u64 X, .int .u64 r1, .int .u64 r2, .int .u64 r3, .int .i64 τ, .int .u64 en, .bool i, .int .u64 a, .int .i64 c, .int .u64 s0, .int .u64 s1, .int .u64 s2, .int .u64 s3] 31)).alloc (.cells #[.int .u64 0, .int .u64 0, .int .u64 0, .int .u64 0, .int .i64 0, .int .u64 0, .bool false, .int .u64 0, .int .i64 0, .int .u64 0, .int .u64 0, .int .u64 0, .int .u64 0] 31)).alloc (.cells #[.int .i64 1, .int .i64 2, .int .i64 4] 3)) (fun v _ => 3 - (intOf v).toNat)
  case atStart => exact ⟨0, t, Or.inl ⟨rfl, rfl⟩, rfl, rfl⟩
  case round =>
    obtain ⟨k, τ, hk, rfl, rfl⟩ := hrel
    rcases hk with hk | hk | hk | hk
    · obtain ⟨rfl, hτ⟩ := hk
      have HT : Hid (τ = t) := hτ
      clear hτ
      by_cases p : 0 < bits .and .i64 X2 1
      · have p1 : decide (0 < bits .and .i64 X2 1) = true := decide_eq_true p
        by_cases q : bits .and .i64 τ 1 = 0
        · have HN : Hid (tell X2 τ 1 = wrap64 (τ + 1)) := by show tell X2 τ 1 = _; unfold tell; rw [if_pos (by simp [p, q])]; first | rfl | (simp [IntKind.wrap_i64, wrap64])
          have q1 : (bits .and .i64 τ 1 == 0) = true := by simp [q]
          clear p q
          go_wp2_with fail
          go_roundw
          case rel => exact ⟨1, wrap64 (τ + 1), Or.inr (Or.inl ⟨rfl, by rw [← HN.out, HT.out]⟩), rfl, rfl⟩
          case measure => simp [intOf]
        · have HN : Hid (tell X2 τ 1 = τ) := by show tell X2 τ 1 = _; unfold tell; simp [p, q]
          have q1 : (bits .and .i64 τ 1 == 0) = false := by simp [q]
          clear p
          go_wp2_with fail
          go_roundw
          case rel => exact ⟨1, τ, Or.inr (Or.inl ⟨rfl, by rw [← HN.out, HT.out]⟩), rfl, rfl⟩
          case measure => simp [intOf]
      · have p1 : decide (0 < bits .and .i64 X2 1) = false := decide_eq_false p
        have HN : Hid (tell X2 τ 1 = τ) := by show tell X2 τ 1 = _; unfold tell; simp [p]
        go_wp2_with fail
        go_roundw
        case rel => exact ⟨1, τ, Or.inr (Or.inl ⟨rfl, by rw [← HN.out, HT.out]⟩), rfl, rfl⟩
        case measure => simp [intOf]
    · obtain ⟨rfl, hτ⟩ := hk
      have HT : Hid (τ = tell X2 t 1) := hτ
      clear hτ
      by_cases p : 0 < bits .and .i64 X2 2
      · have p1 : decide (0 < bits .and .i64 X2 2) = true := decide_eq_true p
        by_cases q : bits .and .i64 τ 2 = 0
        · have HN : Hid (tell X2 τ 2 = wrap64 (τ + 2)) := by show tell X2 τ 2 = _; unfold tell; rw [if_pos (by simp [p, q])]; first | rfl | (simp [IntKind.wrap_i64, wrap64])
          have q1 : (bits .and .i64 τ 2 == 0) = true := by simp [q]
          clear p q
          go_wp2_with fail
          go_roundw
          case rel => exact ⟨2, wrap64 (τ + 2), Or.inr (Or.inr (Or.inl ⟨rfl, by rw [← HN.out, HT.out]⟩)), rfl, rfl⟩
          case measure => simp [intOf]
        · have HN : Hid (tell X2 τ 2 = τ) := by show tell X2 τ 2 = _; unfold tell; simp [p, q]
          have q1 : (bits .and .i64 τ 2 == 0) = false := by simp [q]
          clear p
          go_wp2_with fail
          go_roundw
          case rel => exact ⟨2, τ, Or.inr (Or.inr (Or.inl ⟨rfl, by rw [← HN.out, HT.out]⟩)), rfl, rfl⟩
          case measure => simp [intOf]
      · have p1 : decide (0 < bits .and .i64 X2 2) = false := decide_eq_false p
        have HN : Hid (tell X2 τ 2 = τ) := by show tell X2 τ 2 = _; unfold tell; simp [p]
        go_wp2_with fail
        go_roundw
        case rel => exact ⟨2, τ, Or.inr (Or.inr (Or.inl ⟨rfl, by rw [← HN.out, HT.out]⟩)), rfl, rfl⟩
        case measure => simp [intOf]
    · obtain ⟨rfl, hτ⟩ := hk
      have HT : Hid (τ = tell X2 (tell X2 t 1) 2) := hτ
      clear hτ
      by_cases p : 0 < bits .and .i64 X2 4
      · have p1 : decide (0 < bits .and .i64 X2 4) = true := decide_eq_true p
        by_cases q : bits .and .i64 τ 4 = 0
        · have HN : Hid (tell X2 τ 4 = wrap64 (τ + 4)) := by show tell X2 τ 4 = _; unfold tell; rw [if_pos (by simp [p, q])]; first | rfl | (simp [IntKind.wrap_i64, wrap64])
          have q1 : (bits .and .i64 τ 4 == 0) = true := by simp [q]
          clear p q
          go_wp2_with fail
          go_roundw
          case rel => exact ⟨3, wrap64 (τ + 4), Or.inr (Or.inr (Or.inr ⟨rfl, by rw [← HN.out, HT.out]⟩)), rfl, rfl⟩
          case measure => simp [intOf]
        · have HN : Hid (tell X2 τ 4 = τ) := by show tell X2 τ 4 = _; unfold tell; simp [p, q]
          have q1 : (bits .and .i64 τ 4 == 0) = false := by simp [q]
          clear p
          go_wp2_with fail
          go_roundw
          case rel => exact ⟨3, τ, Or.inr (Or.inr (Or.inr ⟨rfl, by rw [← HN.out, HT.out]⟩)), rfl, rfl⟩
          case measure => simp [intOf]
      · have p1 : decide (0 < bits .and .i64 X2 4) = false := decide_eq_false p
        have HN : Hid (tell X2 τ 4 = τ) := by show tell X2 τ 4 = _; unfold tell; simp [p]
        go_wp2_with fail
        go_roundw
        case rel => exact ⟨3, τ, Or.inr (Or.inr (Or.inr ⟨rfl, by rw [← HN.out, HT.out]⟩)), rfl, rfl⟩
        case measure => simp [intOf]
    · obtain ⟨rfl, hτ⟩ := hk
      have HT : Hid (τ = O) := hτ.trans hO
      clear hτ
      go_wp2_with fail
      go_returns
      exact ⟨by rw [HT.out], BB.out _ (by repeat (first | exact Below.refl _ _ | refine below_new ?_ _ | refine below_drew ?_))⟩
set_option maxHeartbeats 8000000 in
theorem rreckon_1 (r0 r1 r2 r3 t en : Int) (i : Bool) (a c s0 s1 s2 s3 : Int) (op : Int) (ka kb : Nat) (la : ka < 4) (lb : kb < 4) (ra rb : Int) (hra : [r0, r1, r2, r3][ka]? = some ra) (hrb : [r0, r1, r2, r3][kb]? = some rb) (X X2 : Int) (O : Int) (hO : tell X2 (tell X2 (tell X2 t 1) 2) 4 = O)
    (DO : Hid (∀ W : World, Calls Try.prog 25 #[.int .i64 op, .int .u64 ra, .int .u64 rb] W fun e w' => e = .returned (.tuple #[.int .u64 X, .int .i64 X2, .int .i64 0]) ∧ ∃ n, w' = W.drewN n)) (w : World) :
    Calls Try.prog 20 #[(St.mk r0 r1 r2 r3 t en i a c s0 s1 s2 s3).val, .int .i64 op, .int .i64 (ka : Int), .int .i64 (kb : Int), .int .i64 1] w fun e w' => e = .returned (.tuple #[(St.mk r0 X r2 r3 O en i a c s0 s1 s2 s3).val, .int .i64 0]) ∧ Below w.heap.size w w' := by
  have Ra : Hid (∀ W : World, Calls Try.prog 24 #[.int .i64 (ka : Int)] W fun e w' => e = .returned (.bool true) ∧ w' = W) := fun W => reg_yes ka (by omega) W
  have Rb : Hid (∀ W : World, Calls Try.prog 24 #[.int .i64 (kb : Int)] W fun e w' => e = .returned (.bool true) ∧ w' = W) := fun W => reg_yes kb (by omega) W
  have Rc : Hid (∀ W : World, Calls Try.prog 24 #[.int .i64 1] W fun e w' => e = .returned (.bool true) ∧ w' = W) := fun W => reg_yes 1 (by omega) W
  have g : ∀ (k : Nat) (v : Int), k < 4 → [r0, r1, r2, r3][k]? = some v → ([.int .u64 r0, .int .u64 r1, .int .u64 r2, .int .u64 r3, .int .i64 t, .int .u64 en, .bool i, .int .u64 a, .int .i64 c, .int .u64 s0, .int .u64 s1, .int .u64 s2, .int .u64 s3] : List Value)[k]? = some (.int .u64 v) := fun k v hk hv => by
    match k, hk with
    | 0, _ => simp at hv; simp [hv]
    | 1, _ => simp at hv; simp [hv]
    | 2, _ => simp at hv; simp [hv]
    | 3, _ => simp at hv; simp [hv]
  have GA : Hid (([.int .u64 r0, .int .u64 r1, .int .u64 r2, .int .u64 r3, .int .i64 t, .int .u64 en, .bool i, .int .u64 a, .int .i64 c, .int .u64 s0, .int .u64 s1, .int .u64 s2, .int .u64 s3] : List Value)[ka]? = some (.int .u64 ra)) := g ka ra la hra
  have GB : Hid (([.int .u64 r0, .int .u64 r1, .int .u64 r2, .int .u64 r3, .int .i64 t, .int .u64 en, .bool i, .int .u64 a, .int .i64 c, .int .u64 s0, .int .u64 s1, .int .u64 s2, .int .u64 s3] : List Value)[kb]? = some (.int .u64 rb)) := g kb rb lb hrb
  clear g hra hrb
  have d1 : decide ((ka : Int) < 0) = false := by simp
  have d2 : decide ((ka : Int) < 4) = true := by simp; omega
  have d3 : decide ((kb : Int) < 0) = false := by simp
  have d4 : decide ((kb : Int) < 4) = true := by simp; omega
  go_enter Try.func20, Try.ntmps20
  go_wp2_with fail
  refine (Ra.out _).mono ?_
  rintro e u ⟨rfl, hu⟩
  subst hu
  go_wp2_with fail
  refine (Rb.out _).mono ?_
  rintro e u ⟨rfl, hu⟩
  subst hu
  go_wp2_with fail
  refine (Rc.out _).mono ?_
  rintro e u ⟨rfl, hu⟩
  have HU : Hid (u = _) := hu
  have ca : u.cell? ⟨w.heap.size, ka, none⟩ = some (.int .u64 ra) := by
    rw [hu, Blk.cell ((Blk.made _ _ _).below (Go.Joins.below_alloc1 _ _))]; exact GA.out
  have cb : u.cell? ⟨w.heap.size, kb, none⟩ = some (.int .u64 rb) := by
    rw [hu, Blk.cell ((Blk.made _ _ _).below (Go.Joins.below_alloc1 _ _))]; exact GB.out
  clear hu
  go_wp2_with fail
  go_quiet ((go_at_call 25; refine Calls.quiet_of (DO.out _)))
  have hu := HU.out
  clear HU ca cb
  subst hu
  rw [drewN_alloc2]
  generalize hw2 : w.drewN nq = w2
  have hsz : w.heap.size = w2.heap.size := by rw [← hw2]; rfl
  have BB : Hid (∀ W, Below w2.heap.size w2 W → Below w.heap.size w W) := fun W h => by
    subst hw2
    exact ⟨h.os, h.tape, h.output, h.size, h.block⟩
  rw [hsz]
  clear hsz hw2
  go_wp2_with fail
  go_loopw [55] (fun v W => ∃ (k : Nat) (τ : Int), ((k = 0 ∧ τ = t) ∨ (k = 1 ∧ τ = tell X2 t 1) ∨ (k = 2 ∧ τ = tell X2 (tell X2 t 1) 2) ∨ (k = 3 ∧ τ = tell X2 (tell X2 (tell X2 t 1) 2) 4)) ∧ v = .int .i64 k ∧ W = ((w2.alloc (.cells #[.int .u64 r0, .int .u64 X, .int .u64 r2, .int .u64 r3, .int .i64 τ, .int .u64 en, .bool i, .int .u64 a, .int .i64 c, .int .u64 s0, .int .u64 s1, .int .u64 s2, .int .u64 s3] 31)).alloc (.cells #[.int .u64 0, .int .u64 0, .int .u64 0, .int .u64 0, .int .i64 0, .int .u64 0, .bool false, .int .u64 0, .int .i64 0, .int .u64 0, .int .u64 0, .int .u64 0, .int .u64 0] 31)).alloc (.cells #[.int .i64 1, .int .i64 2, .int .i64 4] 3)) (fun v _ => 3 - (intOf v).toNat)
  case atStart => exact ⟨0, t, Or.inl ⟨rfl, rfl⟩, rfl, rfl⟩
  case round =>
    obtain ⟨k, τ, hk, rfl, rfl⟩ := hrel
    rcases hk with hk | hk | hk | hk
    · obtain ⟨rfl, hτ⟩ := hk
      have HT : Hid (τ = t) := hτ
      clear hτ
      by_cases p : 0 < bits .and .i64 X2 1
      · have p1 : decide (0 < bits .and .i64 X2 1) = true := decide_eq_true p
        by_cases q : bits .and .i64 τ 1 = 0
        · have HN : Hid (tell X2 τ 1 = wrap64 (τ + 1)) := by show tell X2 τ 1 = _; unfold tell; rw [if_pos (by simp [p, q])]; first | rfl | (simp [IntKind.wrap_i64, wrap64])
          have q1 : (bits .and .i64 τ 1 == 0) = true := by simp [q]
          clear p q
          go_wp2_with fail
          go_roundw
          case rel => exact ⟨1, wrap64 (τ + 1), Or.inr (Or.inl ⟨rfl, by rw [← HN.out, HT.out]⟩), rfl, rfl⟩
          case measure => simp [intOf]
        · have HN : Hid (tell X2 τ 1 = τ) := by show tell X2 τ 1 = _; unfold tell; simp [p, q]
          have q1 : (bits .and .i64 τ 1 == 0) = false := by simp [q]
          clear p
          go_wp2_with fail
          go_roundw
          case rel => exact ⟨1, τ, Or.inr (Or.inl ⟨rfl, by rw [← HN.out, HT.out]⟩), rfl, rfl⟩
          case measure => simp [intOf]
      · have p1 : decide (0 < bits .and .i64 X2 1) = false := decide_eq_false p
        have HN : Hid (tell X2 τ 1 = τ) := by show tell X2 τ 1 = _; unfold tell; simp [p]
        go_wp2_with fail
        go_roundw
        case rel => exact ⟨1, τ, Or.inr (Or.inl ⟨rfl, by rw [← HN.out, HT.out]⟩), rfl, rfl⟩
        case measure => simp [intOf]
    · obtain ⟨rfl, hτ⟩ := hk
      have HT : Hid (τ = tell X2 t 1) := hτ
      clear hτ
      by_cases p : 0 < bits .and .i64 X2 2
      · have p1 : decide (0 < bits .and .i64 X2 2) = true := decide_eq_true p
        by_cases q : bits .and .i64 τ 2 = 0
        · have HN : Hid (tell X2 τ 2 = wrap64 (τ + 2)) := by show tell X2 τ 2 = _; unfold tell; rw [if_pos (by simp [p, q])]; first | rfl | (simp [IntKind.wrap_i64, wrap64])
          have q1 : (bits .and .i64 τ 2 == 0) = true := by simp [q]
          clear p q
          go_wp2_with fail
          go_roundw
          case rel => exact ⟨2, wrap64 (τ + 2), Or.inr (Or.inr (Or.inl ⟨rfl, by rw [← HN.out, HT.out]⟩)), rfl, rfl⟩
          case measure => simp [intOf]
        · have HN : Hid (tell X2 τ 2 = τ) := by show tell X2 τ 2 = _; unfold tell; simp [p, q]
          have q1 : (bits .and .i64 τ 2 == 0) = false := by simp [q]
          clear p
          go_wp2_with fail
          go_roundw
          case rel => exact ⟨2, τ, Or.inr (Or.inr (Or.inl ⟨rfl, by rw [← HN.out, HT.out]⟩)), rfl, rfl⟩
          case measure => simp [intOf]
      · have p1 : decide (0 < bits .and .i64 X2 2) = false := decide_eq_false p
        have HN : Hid (tell X2 τ 2 = τ) := by show tell X2 τ 2 = _; unfold tell; simp [p]
        go_wp2_with fail
        go_roundw
        case rel => exact ⟨2, τ, Or.inr (Or.inr (Or.inl ⟨rfl, by rw [← HN.out, HT.out]⟩)), rfl, rfl⟩
        case measure => simp [intOf]
    · obtain ⟨rfl, hτ⟩ := hk
      have HT : Hid (τ = tell X2 (tell X2 t 1) 2) := hτ
      clear hτ
      by_cases p : 0 < bits .and .i64 X2 4
      · have p1 : decide (0 < bits .and .i64 X2 4) = true := decide_eq_true p
        by_cases q : bits .and .i64 τ 4 = 0
        · have HN : Hid (tell X2 τ 4 = wrap64 (τ + 4)) := by show tell X2 τ 4 = _; unfold tell; rw [if_pos (by simp [p, q])]; first | rfl | (simp [IntKind.wrap_i64, wrap64])
          have q1 : (bits .and .i64 τ 4 == 0) = true := by simp [q]
          clear p q
          go_wp2_with fail
          go_roundw
          case rel => exact ⟨3, wrap64 (τ + 4), Or.inr (Or.inr (Or.inr ⟨rfl, by rw [← HN.out, HT.out]⟩)), rfl, rfl⟩
          case measure => simp [intOf]
        · have HN : Hid (tell X2 τ 4 = τ) := by show tell X2 τ 4 = _; unfold tell; simp [p, q]
          have q1 : (bits .and .i64 τ 4 == 0) = false := by simp [q]
          clear p
          go_wp2_with fail
          go_roundw
          case rel => exact ⟨3, τ, Or.inr (Or.inr (Or.inr ⟨rfl, by rw [← HN.out, HT.out]⟩)), rfl, rfl⟩
          case measure => simp [intOf]
      · have p1 : decide (0 < bits .and .i64 X2 4) = false := decide_eq_false p
        have HN : Hid (tell X2 τ 4 = τ) := by show tell X2 τ 4 = _; unfold tell; simp [p]
        go_wp2_with fail
        go_roundw
        case rel => exact ⟨3, τ, Or.inr (Or.inr (Or.inr ⟨rfl, by rw [← HN.out, HT.out]⟩)), rfl, rfl⟩
        case measure => simp [intOf]
    · obtain ⟨rfl, hτ⟩ := hk
      have HT : Hid (τ = O) := hτ.trans hO
      clear hτ
      go_wp2_with fail
      go_returns
      exact ⟨by rw [HT.out], BB.out _ (by repeat (first | exact Below.refl _ _ | refine below_new ?_ _ | refine below_drew ?_))⟩
set_option maxHeartbeats 8000000 in
theorem rreckon_2 (r0 r1 r2 r3 t en : Int) (i : Bool) (a c s0 s1 s2 s3 : Int) (op : Int) (ka kb : Nat) (la : ka < 4) (lb : kb < 4) (ra rb : Int) (hra : [r0, r1, r2, r3][ka]? = some ra) (hrb : [r0, r1, r2, r3][kb]? = some rb) (X X2 : Int) (O : Int) (hO : tell X2 (tell X2 (tell X2 t 1) 2) 4 = O)
    (DO : Hid (∀ W : World, Calls Try.prog 25 #[.int .i64 op, .int .u64 ra, .int .u64 rb] W fun e w' => e = .returned (.tuple #[.int .u64 X, .int .i64 X2, .int .i64 0]) ∧ ∃ n, w' = W.drewN n)) (w : World) :
    Calls Try.prog 20 #[(St.mk r0 r1 r2 r3 t en i a c s0 s1 s2 s3).val, .int .i64 op, .int .i64 (ka : Int), .int .i64 (kb : Int), .int .i64 2] w fun e w' => e = .returned (.tuple #[(St.mk r0 r1 X r3 O en i a c s0 s1 s2 s3).val, .int .i64 0]) ∧ Below w.heap.size w w' := by
  have Ra : Hid (∀ W : World, Calls Try.prog 24 #[.int .i64 (ka : Int)] W fun e w' => e = .returned (.bool true) ∧ w' = W) := fun W => reg_yes ka (by omega) W
  have Rb : Hid (∀ W : World, Calls Try.prog 24 #[.int .i64 (kb : Int)] W fun e w' => e = .returned (.bool true) ∧ w' = W) := fun W => reg_yes kb (by omega) W
  have Rc : Hid (∀ W : World, Calls Try.prog 24 #[.int .i64 2] W fun e w' => e = .returned (.bool true) ∧ w' = W) := fun W => reg_yes 2 (by omega) W
  have g : ∀ (k : Nat) (v : Int), k < 4 → [r0, r1, r2, r3][k]? = some v → ([.int .u64 r0, .int .u64 r1, .int .u64 r2, .int .u64 r3, .int .i64 t, .int .u64 en, .bool i, .int .u64 a, .int .i64 c, .int .u64 s0, .int .u64 s1, .int .u64 s2, .int .u64 s3] : List Value)[k]? = some (.int .u64 v) := fun k v hk hv => by
    match k, hk with
    | 0, _ => simp at hv; simp [hv]
    | 1, _ => simp at hv; simp [hv]
    | 2, _ => simp at hv; simp [hv]
    | 3, _ => simp at hv; simp [hv]
  have GA : Hid (([.int .u64 r0, .int .u64 r1, .int .u64 r2, .int .u64 r3, .int .i64 t, .int .u64 en, .bool i, .int .u64 a, .int .i64 c, .int .u64 s0, .int .u64 s1, .int .u64 s2, .int .u64 s3] : List Value)[ka]? = some (.int .u64 ra)) := g ka ra la hra
  have GB : Hid (([.int .u64 r0, .int .u64 r1, .int .u64 r2, .int .u64 r3, .int .i64 t, .int .u64 en, .bool i, .int .u64 a, .int .i64 c, .int .u64 s0, .int .u64 s1, .int .u64 s2, .int .u64 s3] : List Value)[kb]? = some (.int .u64 rb)) := g kb rb lb hrb
  clear g hra hrb
  have d1 : decide ((ka : Int) < 0) = false := by simp
  have d2 : decide ((ka : Int) < 4) = true := by simp; omega
  have d3 : decide ((kb : Int) < 0) = false := by simp
  have d4 : decide ((kb : Int) < 4) = true := by simp; omega
  go_enter Try.func20, Try.ntmps20
  go_wp2_with fail
  refine (Ra.out _).mono ?_
  rintro e u ⟨rfl, hu⟩
  subst hu
  go_wp2_with fail
  refine (Rb.out _).mono ?_
  rintro e u ⟨rfl, hu⟩
  subst hu
  go_wp2_with fail
  refine (Rc.out _).mono ?_
  rintro e u ⟨rfl, hu⟩
  have HU : Hid (u = _) := hu
  have ca : u.cell? ⟨w.heap.size, ka, none⟩ = some (.int .u64 ra) := by
    rw [hu, Blk.cell ((Blk.made _ _ _).below (Go.Joins.below_alloc1 _ _))]; exact GA.out
  have cb : u.cell? ⟨w.heap.size, kb, none⟩ = some (.int .u64 rb) := by
    rw [hu, Blk.cell ((Blk.made _ _ _).below (Go.Joins.below_alloc1 _ _))]; exact GB.out
  clear hu
  go_wp2_with fail
  go_quiet ((go_at_call 25; refine Calls.quiet_of (DO.out _)))
  have hu := HU.out
  clear HU ca cb
  subst hu
  rw [drewN_alloc2]
  generalize hw2 : w.drewN nq = w2
  have hsz : w.heap.size = w2.heap.size := by rw [← hw2]; rfl
  have BB : Hid (∀ W, Below w2.heap.size w2 W → Below w.heap.size w W) := fun W h => by
    subst hw2
    exact ⟨h.os, h.tape, h.output, h.size, h.block⟩
  rw [hsz]
  clear hsz hw2
  go_wp2_with fail
  go_loopw [55] (fun v W => ∃ (k : Nat) (τ : Int), ((k = 0 ∧ τ = t) ∨ (k = 1 ∧ τ = tell X2 t 1) ∨ (k = 2 ∧ τ = tell X2 (tell X2 t 1) 2) ∨ (k = 3 ∧ τ = tell X2 (tell X2 (tell X2 t 1) 2) 4)) ∧ v = .int .i64 k ∧ W = ((w2.alloc (.cells #[.int .u64 r0, .int .u64 r1, .int .u64 X, .int .u64 r3, .int .i64 τ, .int .u64 en, .bool i, .int .u64 a, .int .i64 c, .int .u64 s0, .int .u64 s1, .int .u64 s2, .int .u64 s3] 31)).alloc (.cells #[.int .u64 0, .int .u64 0, .int .u64 0, .int .u64 0, .int .i64 0, .int .u64 0, .bool false, .int .u64 0, .int .i64 0, .int .u64 0, .int .u64 0, .int .u64 0, .int .u64 0] 31)).alloc (.cells #[.int .i64 1, .int .i64 2, .int .i64 4] 3)) (fun v _ => 3 - (intOf v).toNat)
  case atStart => exact ⟨0, t, Or.inl ⟨rfl, rfl⟩, rfl, rfl⟩
  case round =>
    obtain ⟨k, τ, hk, rfl, rfl⟩ := hrel
    rcases hk with hk | hk | hk | hk
    · obtain ⟨rfl, hτ⟩ := hk
      have HT : Hid (τ = t) := hτ
      clear hτ
      by_cases p : 0 < bits .and .i64 X2 1
      · have p1 : decide (0 < bits .and .i64 X2 1) = true := decide_eq_true p
        by_cases q : bits .and .i64 τ 1 = 0
        · have HN : Hid (tell X2 τ 1 = wrap64 (τ + 1)) := by show tell X2 τ 1 = _; unfold tell; rw [if_pos (by simp [p, q])]; first | rfl | (simp [IntKind.wrap_i64, wrap64])
          have q1 : (bits .and .i64 τ 1 == 0) = true := by simp [q]
          clear p q
          go_wp2_with fail
          go_roundw
          case rel => exact ⟨1, wrap64 (τ + 1), Or.inr (Or.inl ⟨rfl, by rw [← HN.out, HT.out]⟩), rfl, rfl⟩
          case measure => simp [intOf]
        · have HN : Hid (tell X2 τ 1 = τ) := by show tell X2 τ 1 = _; unfold tell; simp [p, q]
          have q1 : (bits .and .i64 τ 1 == 0) = false := by simp [q]
          clear p
          go_wp2_with fail
          go_roundw
          case rel => exact ⟨1, τ, Or.inr (Or.inl ⟨rfl, by rw [← HN.out, HT.out]⟩), rfl, rfl⟩
          case measure => simp [intOf]
      · have p1 : decide (0 < bits .and .i64 X2 1) = false := decide_eq_false p
        have HN : Hid (tell X2 τ 1 = τ) := by show tell X2 τ 1 = _; unfold tell; simp [p]
        go_wp2_with fail
        go_roundw
        case rel => exact ⟨1, τ, Or.inr (Or.inl ⟨rfl, by rw [← HN.out, HT.out]⟩), rfl, rfl⟩
        case measure => simp [intOf]
    · obtain ⟨rfl, hτ⟩ := hk
      have HT : Hid (τ = tell X2 t 1) := hτ
      clear hτ
      by_cases p : 0 < bits .and .i64 X2 2
      · have p1 : decide (0 < bits .and .i64 X2 2) = true := decide_eq_true p
        by_cases q : bits .and .i64 τ 2 = 0
        · have HN : Hid (tell X2 τ 2 = wrap64 (τ + 2)) := by show tell X2 τ 2 = _; unfold tell; rw [if_pos (by simp [p, q])]; first | rfl | (simp [IntKind.wrap_i64, wrap64])
          have q1 : (bits .and .i64 τ 2 == 0) = true := by simp [q]
          clear p q
          go_wp2_with fail
          go_roundw
          case rel => exact ⟨2, wrap64 (τ + 2), Or.inr (Or.inr (Or.inl ⟨rfl, by rw [← HN.out, HT.out]⟩)), rfl, rfl⟩
          case measure => simp [intOf]
        · have HN : Hid (tell X2 τ 2 = τ) := by show tell X2 τ 2 = _; unfold tell; simp [p, q]
          have q1 : (bits .and .i64 τ 2 == 0) = false := by simp [q]
          clear p
          go_wp2_with fail
          go_roundw
          case rel => exact ⟨2, τ, Or.inr (Or.inr (Or.inl ⟨rfl, by rw [← HN.out, HT.out]⟩)), rfl, rfl⟩
          case measure => simp [intOf]
      · have p1 : decide (0 < bits .and .i64 X2 2) = false := decide_eq_false p
        have HN : Hid (tell X2 τ 2 = τ) := by show tell X2 τ 2 = _; unfold tell; simp [p]
        go_wp2_with fail
        go_roundw
        case rel => exact ⟨2, τ, Or.inr (Or.inr (Or.inl ⟨rfl, by rw [← HN.out, HT.out]⟩)), rfl, rfl⟩
        case measure => simp [intOf]
    · obtain ⟨rfl, hτ⟩ := hk
      have HT : Hid (τ = tell X2 (tell X2 t 1) 2) := hτ
      clear hτ
      by_cases p : 0 < bits .and .i64 X2 4
      · have p1 : decide (0 < bits .and .i64 X2 4) = true := decide_eq_true p
        by_cases q : bits .and .i64 τ 4 = 0
        · have HN : Hid (tell X2 τ 4 = wrap64 (τ + 4)) := by show tell X2 τ 4 = _; unfold tell; rw [if_pos (by simp [p, q])]; first | rfl | (simp [IntKind.wrap_i64, wrap64])
          have q1 : (bits .and .i64 τ 4 == 0) = true := by simp [q]
          clear p q
          go_wp2_with fail
          go_roundw
          case rel => exact ⟨3, wrap64 (τ + 4), Or.inr (Or.inr (Or.inr ⟨rfl, by rw [← HN.out, HT.out]⟩)), rfl, rfl⟩
          case measure => simp [intOf]
        · have HN : Hid (tell X2 τ 4 = τ) := by show tell X2 τ 4 = _; unfold tell; simp [p, q]
          have q1 : (bits .and .i64 τ 4 == 0) = false := by simp [q]
          clear p
          go_wp2_with fail
          go_roundw
          case rel => exact ⟨3, τ, Or.inr (Or.inr (Or.inr ⟨rfl, by rw [← HN.out, HT.out]⟩)), rfl, rfl⟩
          case measure => simp [intOf]
      · have p1 : decide (0 < bits .and .i64 X2 4) = false := decide_eq_false p
        have HN : Hid (tell X2 τ 4 = τ) := by show tell X2 τ 4 = _; unfold tell; simp [p]
        go_wp2_with fail
        go_roundw
        case rel => exact ⟨3, τ, Or.inr (Or.inr (Or.inr ⟨rfl, by rw [← HN.out, HT.out]⟩)), rfl, rfl⟩
        case measure => simp [intOf]
    · obtain ⟨rfl, hτ⟩ := hk
      have HT : Hid (τ = O) := hτ.trans hO
      clear hτ
      go_wp2_with fail
      go_returns
      exact ⟨by rw [HT.out], BB.out _ (by repeat (first | exact Below.refl _ _ | refine below_new ?_ _ | refine below_drew ?_))⟩
set_option maxHeartbeats 8000000 in
theorem rreckon_3 (r0 r1 r2 r3 t en : Int) (i : Bool) (a c s0 s1 s2 s3 : Int) (op : Int) (ka kb : Nat) (la : ka < 4) (lb : kb < 4) (ra rb : Int) (hra : [r0, r1, r2, r3][ka]? = some ra) (hrb : [r0, r1, r2, r3][kb]? = some rb) (X X2 : Int) (O : Int) (hO : tell X2 (tell X2 (tell X2 t 1) 2) 4 = O)
    (DO : Hid (∀ W : World, Calls Try.prog 25 #[.int .i64 op, .int .u64 ra, .int .u64 rb] W fun e w' => e = .returned (.tuple #[.int .u64 X, .int .i64 X2, .int .i64 0]) ∧ ∃ n, w' = W.drewN n)) (w : World) :
    Calls Try.prog 20 #[(St.mk r0 r1 r2 r3 t en i a c s0 s1 s2 s3).val, .int .i64 op, .int .i64 (ka : Int), .int .i64 (kb : Int), .int .i64 3] w fun e w' => e = .returned (.tuple #[(St.mk r0 r1 r2 X O en i a c s0 s1 s2 s3).val, .int .i64 0]) ∧ Below w.heap.size w w' := by
  have Ra : Hid (∀ W : World, Calls Try.prog 24 #[.int .i64 (ka : Int)] W fun e w' => e = .returned (.bool true) ∧ w' = W) := fun W => reg_yes ka (by omega) W
  have Rb : Hid (∀ W : World, Calls Try.prog 24 #[.int .i64 (kb : Int)] W fun e w' => e = .returned (.bool true) ∧ w' = W) := fun W => reg_yes kb (by omega) W
  have Rc : Hid (∀ W : World, Calls Try.prog 24 #[.int .i64 3] W fun e w' => e = .returned (.bool true) ∧ w' = W) := fun W => reg_yes 3 (by omega) W
  have g : ∀ (k : Nat) (v : Int), k < 4 → [r0, r1, r2, r3][k]? = some v → ([.int .u64 r0, .int .u64 r1, .int .u64 r2, .int .u64 r3, .int .i64 t, .int .u64 en, .bool i, .int .u64 a, .int .i64 c, .int .u64 s0, .int .u64 s1, .int .u64 s2, .int .u64 s3] : List Value)[k]? = some (.int .u64 v) := fun k v hk hv => by
    match k, hk with
    | 0, _ => simp at hv; simp [hv]
    | 1, _ => simp at hv; simp [hv]
    | 2, _ => simp at hv; simp [hv]
    | 3, _ => simp at hv; simp [hv]
  have GA : Hid (([.int .u64 r0, .int .u64 r1, .int .u64 r2, .int .u64 r3, .int .i64 t, .int .u64 en, .bool i, .int .u64 a, .int .i64 c, .int .u64 s0, .int .u64 s1, .int .u64 s2, .int .u64 s3] : List Value)[ka]? = some (.int .u64 ra)) := g ka ra la hra
  have GB : Hid (([.int .u64 r0, .int .u64 r1, .int .u64 r2, .int .u64 r3, .int .i64 t, .int .u64 en, .bool i, .int .u64 a, .int .i64 c, .int .u64 s0, .int .u64 s1, .int .u64 s2, .int .u64 s3] : List Value)[kb]? = some (.int .u64 rb)) := g kb rb lb hrb
  clear g hra hrb
  have d1 : decide ((ka : Int) < 0) = false := by simp
  have d2 : decide ((ka : Int) < 4) = true := by simp; omega
  have d3 : decide ((kb : Int) < 0) = false := by simp
  have d4 : decide ((kb : Int) < 4) = true := by simp; omega
  go_enter Try.func20, Try.ntmps20
  go_wp2_with fail
  refine (Ra.out _).mono ?_
  rintro e u ⟨rfl, hu⟩
  subst hu
  go_wp2_with fail
  refine (Rb.out _).mono ?_
  rintro e u ⟨rfl, hu⟩
  subst hu
  go_wp2_with fail
  refine (Rc.out _).mono ?_
  rintro e u ⟨rfl, hu⟩
  have HU : Hid (u = _) := hu
  have ca : u.cell? ⟨w.heap.size, ka, none⟩ = some (.int .u64 ra) := by
    rw [hu, Blk.cell ((Blk.made _ _ _).below (Go.Joins.below_alloc1 _ _))]; exact GA.out
  have cb : u.cell? ⟨w.heap.size, kb, none⟩ = some (.int .u64 rb) := by
    rw [hu, Blk.cell ((Blk.made _ _ _).below (Go.Joins.below_alloc1 _ _))]; exact GB.out
  clear hu
  go_wp2_with fail
  go_quiet ((go_at_call 25; refine Calls.quiet_of (DO.out _)))
  have hu := HU.out
  clear HU ca cb
  subst hu
  rw [drewN_alloc2]
  generalize hw2 : w.drewN nq = w2
  have hsz : w.heap.size = w2.heap.size := by rw [← hw2]; rfl
  have BB : Hid (∀ W, Below w2.heap.size w2 W → Below w.heap.size w W) := fun W h => by
    subst hw2
    exact ⟨h.os, h.tape, h.output, h.size, h.block⟩
  rw [hsz]
  clear hsz hw2
  go_wp2_with fail
  go_loopw [55] (fun v W => ∃ (k : Nat) (τ : Int), ((k = 0 ∧ τ = t) ∨ (k = 1 ∧ τ = tell X2 t 1) ∨ (k = 2 ∧ τ = tell X2 (tell X2 t 1) 2) ∨ (k = 3 ∧ τ = tell X2 (tell X2 (tell X2 t 1) 2) 4)) ∧ v = .int .i64 k ∧ W = ((w2.alloc (.cells #[.int .u64 r0, .int .u64 r1, .int .u64 r2, .int .u64 X, .int .i64 τ, .int .u64 en, .bool i, .int .u64 a, .int .i64 c, .int .u64 s0, .int .u64 s1, .int .u64 s2, .int .u64 s3] 31)).alloc (.cells #[.int .u64 0, .int .u64 0, .int .u64 0, .int .u64 0, .int .i64 0, .int .u64 0, .bool false, .int .u64 0, .int .i64 0, .int .u64 0, .int .u64 0, .int .u64 0, .int .u64 0] 31)).alloc (.cells #[.int .i64 1, .int .i64 2, .int .i64 4] 3)) (fun v _ => 3 - (intOf v).toNat)
  case atStart => exact ⟨0, t, Or.inl ⟨rfl, rfl⟩, rfl, rfl⟩
  case round =>
    obtain ⟨k, τ, hk, rfl, rfl⟩ := hrel
    rcases hk with hk | hk | hk | hk
    · obtain ⟨rfl, hτ⟩ := hk
      have HT : Hid (τ = t) := hτ
      clear hτ
      by_cases p : 0 < bits .and .i64 X2 1
      · have p1 : decide (0 < bits .and .i64 X2 1) = true := decide_eq_true p
        by_cases q : bits .and .i64 τ 1 = 0
        · have HN : Hid (tell X2 τ 1 = wrap64 (τ + 1)) := by show tell X2 τ 1 = _; unfold tell; rw [if_pos (by simp [p, q])]; first | rfl | (simp [IntKind.wrap_i64, wrap64])
          have q1 : (bits .and .i64 τ 1 == 0) = true := by simp [q]
          clear p q
          go_wp2_with fail
          go_roundw
          case rel => exact ⟨1, wrap64 (τ + 1), Or.inr (Or.inl ⟨rfl, by rw [← HN.out, HT.out]⟩), rfl, rfl⟩
          case measure => simp [intOf]
        · have HN : Hid (tell X2 τ 1 = τ) := by show tell X2 τ 1 = _; unfold tell; simp [p, q]
          have q1 : (bits .and .i64 τ 1 == 0) = false := by simp [q]
          clear p
          go_wp2_with fail
          go_roundw
          case rel => exact ⟨1, τ, Or.inr (Or.inl ⟨rfl, by rw [← HN.out, HT.out]⟩), rfl, rfl⟩
          case measure => simp [intOf]
      · have p1 : decide (0 < bits .and .i64 X2 1) = false := decide_eq_false p
        have HN : Hid (tell X2 τ 1 = τ) := by show tell X2 τ 1 = _; unfold tell; simp [p]
        go_wp2_with fail
        go_roundw
        case rel => exact ⟨1, τ, Or.inr (Or.inl ⟨rfl, by rw [← HN.out, HT.out]⟩), rfl, rfl⟩
        case measure => simp [intOf]
    · obtain ⟨rfl, hτ⟩ := hk
      have HT : Hid (τ = tell X2 t 1) := hτ
      clear hτ
      by_cases p : 0 < bits .and .i64 X2 2
      · have p1 : decide (0 < bits .and .i64 X2 2) = true := decide_eq_true p
        by_cases q : bits .and .i64 τ 2 = 0
        · have HN : Hid (tell X2 τ 2 = wrap64 (τ + 2)) := by show tell X2 τ 2 = _; unfold tell; rw [if_pos (by simp [p, q])]; first | rfl | (simp [IntKind.wrap_i64, wrap64])
          have q1 : (bits .and .i64 τ 2 == 0) = true := by simp [q]
          clear p q
          go_wp2_with fail
          go_roundw
          case rel => exact ⟨2, wrap64 (τ + 2), Or.inr (Or.inr (Or.inl ⟨rfl, by rw [← HN.out, HT.out]⟩)), rfl, rfl⟩
          case measure => simp [intOf]
        · have HN : Hid (tell X2 τ 2 = τ) := by show tell X2 τ 2 = _; unfold tell; simp [p, q]
          have q1 : (bits .and .i64 τ 2 == 0) = false := by simp [q]
          clear p
          go_wp2_with fail
          go_roundw
          case rel => exact ⟨2, τ, Or.inr (Or.inr (Or.inl ⟨rfl, by rw [← HN.out, HT.out]⟩)), rfl, rfl⟩
          case measure => simp [intOf]
      · have p1 : decide (0 < bits .and .i64 X2 2) = false := decide_eq_false p
        have HN : Hid (tell X2 τ 2 = τ) := by show tell X2 τ 2 = _; unfold tell; simp [p]
        go_wp2_with fail
        go_roundw
        case rel => exact ⟨2, τ, Or.inr (Or.inr (Or.inl ⟨rfl, by rw [← HN.out, HT.out]⟩)), rfl, rfl⟩
        case measure => simp [intOf]
    · obtain ⟨rfl, hτ⟩ := hk
      have HT : Hid (τ = tell X2 (tell X2 t 1) 2) := hτ
      clear hτ
      by_cases p : 0 < bits .and .i64 X2 4
      · have p1 : decide (0 < bits .and .i64 X2 4) = true := decide_eq_true p
        by_cases q : bits .and .i64 τ 4 = 0
        · have HN : Hid (tell X2 τ 4 = wrap64 (τ + 4)) := by show tell X2 τ 4 = _; unfold tell; rw [if_pos (by simp [p, q])]; first | rfl | (simp [IntKind.wrap_i64, wrap64])
          have q1 : (bits .and .i64 τ 4 == 0) = true := by simp [q]
          clear p q
          go_wp2_with fail
          go_roundw
          case rel => exact ⟨3, wrap64 (τ + 4), Or.inr (Or.inr (Or.inr ⟨rfl, by rw [← HN.out, HT.out]⟩)), rfl, rfl⟩
          case measure => simp [intOf]
        · have HN : Hid (tell X2 τ 4 = τ) := by show tell X2 τ 4 = _; unfold tell; simp [p, q]
          have q1 : (bits .and .i64 τ 4 == 0) = false := by simp [q]
          clear p
          go_wp2_with fail
          go_roundw
          case rel => exact ⟨3, τ, Or.inr (Or.inr (Or.inr ⟨rfl, by rw [← HN.out, HT.out]⟩)), rfl, rfl⟩
          case measure => simp [intOf]
      · have p1 : decide (0 < bits .and .i64 X2 4) = false := decide_eq_false p
        have HN : Hid (tell X2 τ 4 = τ) := by show tell X2 τ 4 = _; unfold tell; simp [p]
        go_wp2_with fail
        go_roundw
        case rel => exact ⟨3, τ, Or.inr (Or.inr (Or.inr ⟨rfl, by rw [← HN.out, HT.out]⟩)), rfl, rfl⟩
        case measure => simp [intOf]
    · obtain ⟨rfl, hτ⟩ := hk
      have HT : Hid (τ = O) := hτ.trans hO
      clear hτ
      go_wp2_with fail
      go_returns
      exact ⟨by rw [HT.out], BB.out _ (by repeat (first | exact Below.refl _ _ | refine below_new ?_ _ | refine below_drew ?_))⟩
end Go.Proofs.Ytcieglidghnidaa
