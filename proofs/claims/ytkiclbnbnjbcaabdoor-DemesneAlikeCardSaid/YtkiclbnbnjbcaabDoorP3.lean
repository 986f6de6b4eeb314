/- The contract of pte's Pack, and what an entry's number says. -/
import Derived.Test.YtkiclbnbnjbcaabDoorP2
namespace Go.Proofs.YtkiclbnbnjbcaabDoor
open Go.ChangeShapes Go.WideShapes Go.ChangeAt Go.RowKit
set_option linter.unusedSimpArgs false
set_option linter.unusedVariables false
set_option maxRecDepth 8000

theorem fl_cases (b : Bool) (v : Int) : (b = true ∧ fl b v = v) ∨ (b = false ∧ fl b v = 0) := by cases b <;> simp [fl]
theorem fl_bd (b : Bool) (v : Int) (h : 0 ≤ v) : 0 ≤ fl b v ∧ fl b v ≤ v := by cases b <;> simp [fl] <;> omega
theorem or_0 (f : Int) (f0 : 0 ≤ f) (f1 : f < 1048576) : bits .or .u64 (f * 4096) 1 = f * 4096 + 1 := by
  exact or_bit _ 0 (f * 2048) (0) (by omega) (by omega) (by omega) (by omega) _ (by decide) (by omega) (by omega)
theorem or_1 (p : Bool) (f : Int) (f0 : 0 ≤ f) (f1 : f < 1048576) : bits .or .u64 (f * 4096 + fl p 1) 2 = f * 4096 + fl p 1 + 2 := by
  have h0 := fl_bd p 1 (by omega)
  exact or_bit _ 1 (f * 1024) (fl p 1) (by omega) (by omega) (by omega) (by omega) _ (by decide) (by omega) (by omega)
theorem or_2 (p r : Bool) (f : Int) (f0 : 0 ≤ f) (f1 : f < 1048576) : bits .or .u64 (f * 4096 + fl p 1 + fl r 2) 4 = f * 4096 + fl p 1 + fl r 2 + 4 := by
  have h0 := fl_bd p 1 (by omega)
  have h1 := fl_bd r 2 (by omega)
  exact or_bit _ 2 (f * 512) (fl p 1 + fl r 2) (by omega) (by omega) (by omega) (by omega) _ (by decide) (by omega) (by omega)
theorem or_3 (p r u : Bool) (f : Int) (f0 : 0 ≤ f) (f1 : f < 1048576) : bits .or .u64 (f * 4096 + fl p 1 + fl r 2 + fl u 4) 32 = f * 4096 + fl p 1 + fl r 2 + fl u 4 + 32 := by
  have h0 := fl_bd p 1 (by omega)
  have h1 := fl_bd r 2 (by omega)
  have h2 := fl_bd u 4 (by omega)
  exact or_bit _ 5 (f * 64) (fl p 1 + fl r 2 + fl u 4) (by omega) (by omega) (by omega) (by omega) _ (by decide) (by omega) (by omega)
theorem or_4 (p r u a : Bool) (f : Int) (f0 : 0 ≤ f) (f1 : f < 1048576) : bits .or .u64 (f * 4096 + fl p 1 + fl r 2 + fl u 4 + fl a 32) 64 = f * 4096 + fl p 1 + fl r 2 + fl u 4 + fl a 32 + 64 := by
  have h0 := fl_bd p 1 (by omega)
  have h1 := fl_bd r 2 (by omega)
  have h2 := fl_bd u 4 (by omega)
  have h3 := fl_bd a 32 (by omega)
  exact or_bit _ 6 (f * 32) (fl p 1 + fl r 2 + fl u 4 + fl a 32) (by omega) (by omega) (by omega) (by omega) _ (by decide) (by omega) (by omega)
theorem or_5 (p r u a d : Bool) (f : Int) (f0 : 0 ≤ f) (f1 : f < 1048576) : bits .or .u64 (f * 4096 + fl p 1 + fl r 2 + fl u 4 + fl a 32 + fl d 64) 128 = f * 4096 + fl p 1 + fl r 2 + fl u 4 + fl a 32 + fl d 64 + 128 := by
  have h0 := fl_bd p 1 (by omega)
  have h1 := fl_bd r 2 (by omega)
  have h2 := fl_bd u 4 (by omega)
  have h3 := fl_bd a 32 (by omega)
  have h4 := fl_bd d 64 (by omega)
  exact or_bit _ 7 (f * 16) (fl p 1 + fl r 2 + fl u 4 + fl a 32 + fl d 64) (by omega) (by omega) (by omega) (by omega) _ (by decide) (by omega) (by omega)
theorem or_6 (p r u a d l : Bool) (f : Int) (f0 : 0 ≤ f) (f1 : f < 1048576) : bits .or .u64 (f * 4096 + fl p 1 + fl r 2 + fl u 4 + fl a 32 + fl d 64 + fl l 128) 256 = f * 4096 + fl p 1 + fl r 2 + fl u 4 + fl a 32 + fl d 64 + fl l 128 + 256 := by
  have h0 := fl_bd p 1 (by omega)
  have h1 := fl_bd r 2 (by omega)
  have h2 := fl_bd u 4 (by omega)
  have h3 := fl_bd a 32 (by omega)
  have h4 := fl_bd d 64 (by omega)
  have h5 := fl_bd l 128 (by omega)
  exact or_bit _ 8 (f * 8) (fl p 1 + fl r 2 + fl u 4 + fl a 32 + fl d 64 + fl l 128) (by omega) (by omega) (by omega) (by omega) _ (by decide) (by omega) (by omega)
theorem or_7 (p r u a d l g : Bool) (f : Int) (f0 : 0 ≤ f) (f1 : f < 1048576) : bits .or .u64 (f * 4096 + fl p 1 + fl r 2 + fl u 4 + fl a 32 + fl d 64 + fl l 128 + fl g 256) 9223372036854775808 = f * 4096 + fl p 1 + fl r 2 + fl u 4 + fl a 32 + fl d 64 + fl l 128 + fl g 256 + 9223372036854775808 := by
  have h0 := fl_bd p 1 (by omega)
  have h1 := fl_bd r 2 (by omega)
  have h2 := fl_bd u 4 (by omega)
  have h3 := fl_bd a 32 (by omega)
  have h4 := fl_bd d 64 (by omega)
  have h5 := fl_bd l 128 (by omega)
  have h6 := fl_bd g 256 (by omega)
  exact or_bit _ 63 0 (f * 4096 + fl p 1 + fl r 2 + fl u 4 + fl a 32 + fl d 64 + fl l 128 + fl g 256) (by omega) (by omega) (by omega) (by omega) _ (by decide) (by omega) (by omega)

set_option maxHeartbeats 1000000 in
theorem pack_walk (p r u a d l g n : Bool) (f : Int) (f0 : 0 ≤ f) (f1 : f < 1048576) (X0 X1 X2 X3 X4 X5 X6 X7 X8 : Int) (e0 : Hid (f * 4096 = X0))
    (t0 : Hid (p = true → bits .or .u64 X0 1 = X1)) (n0 : Hid (p = false → X0 = X1)) (t1 : Hid (r = true → bits .or .u64 X1 2 = X2)) (n1 : Hid (r = false → X1 = X2)) (t2 : Hid (u = true → bits .or .u64 X2 4 = X3)) (n2 : Hid (u = false → X2 = X3)) (t3 : Hid (a = true → bits .or .u64 X3 32 = X4)) (n3 : Hid (a = false → X3 = X4)) (t4 : Hid (d = true → bits .or .u64 X4 64 = X5)) (n4 : Hid (d = false → X4 = X5)) (t5 : Hid (l = true → bits .or .u64 X5 128 = X6)) (n5 : Hid (l = false → X5 = X6)) (t6 : Hid (g = true → bits .or .u64 X6 256 = X7)) (n6 : Hid (g = false → X6 = X7)) (t7 : Hid (n = true → bits .or .u64 X7 9223372036854775808 = X8)) (n7 : Hid (n = false → X7 = X8)) (w : World) (ht : Tab w) :
    Calls Tryd.prog 47 #[.agg #[.bool p, .bool r, .bool u, .bool a, .bool d, .bool l, .bool g, .bool n, .int .i64 f]] w fun e w' => e = .returned (.tuple #[.int .u64 X8, .int .i64 0]) ∧ Below w.heap.size w w' := by
  obtain ⟨hs, c0, c1, c2, c3, c4, c5, c6, c7⟩ := ht
  have F : Hid (∀ (b : Nat) (w : World), Calls Tryd.prog 61 #[.pointer (some ⟨b, 0, none⟩)] w fun e w' => e = .returned (.agg #[.pointer (some ⟨b, 0, none⟩), .pointer (some ⟨b, 1, none⟩), .pointer (some ⟨b, 2, none⟩), .pointer (some ⟨b, 3, none⟩), .pointer (some ⟨b, 4, none⟩), .pointer (some ⟨b, 5, none⟩), .pointer (some ⟨b, 6, none⟩), .pointer (some ⟨b, 7, none⟩)]) ∧ ∃ o, w' = (w.alloc o).drew) := flags_any
  have i0 := idx8_0
  have i1 := idx8_1
  have i2 := idx8_2
  have i3 := idx8_3
  have i4 := idx8_4
  have i5 := idx8_5
  have i6 := idx8_6
  have i7 := idx8_7
  go_enter Tryd.func47, Tryd.ntmps47
  go_wp2_with fail
  refine (F.out _ _).mono ?_
  rintro e w1 ⟨rfl, o, rfl⟩
  go_wp2_with fail
  go_loop [4, 20] (fun x i => (i = .int .i64 0 ∧ x = .int .u64 X0) ∨ (i = .int .i64 1 ∧ x = .int .u64 X1) ∨ (i = .int .i64 2 ∧ x = .int .u64 X2) ∨ (i = .int .i64 3 ∧ x = .int .u64 X3) ∨ (i = .int .i64 4 ∧ x = .int .u64 X4) ∨ (i = .int .i64 5 ∧ x = .int .u64 X5) ∨ (i = .int .i64 6 ∧ x = .int .u64 X6) ∨ (i = .int .i64 7 ∧ x = .int .u64 X7) ∨ (i = .int .i64 8 ∧ x = .int .u64 X8)) (fun _ i => (8 - intOf i).toNat)
  case atStart => exact Or.inl ⟨rfl, by rw [← e0.out]⟩
  case round =>
    rcases hrel with ⟨rfl, rfl⟩ | ⟨rfl, rfl⟩ | ⟨rfl, rfl⟩ | ⟨rfl, rfl⟩ | ⟨rfl, rfl⟩ | ⟨rfl, rfl⟩ | ⟨rfl, rfl⟩ | ⟨rfl, rfl⟩ | ⟨rfl, rfl⟩
    · cases p
      · have q : X0 = X1 := n0.out rfl
        subst q
        go_wp2_with fail
        go_round
        case rel => exact Or.inr (Or.inl ⟨rfl, rfl⟩)
        case measure => simp [intOf]
      · have q : bits .or .u64 X0 1 = X1 := t0.out rfl
        go_wp2_with fail
        go_round
        case rel => exact Or.inr (Or.inl ⟨rfl, rfl⟩)
        case measure => simp [intOf]
    · cases r
      · have q : X1 = X2 := n1.out rfl
        subst q
        go_wp2_with fail
        go_round
        case rel => exact Or.inr (Or.inr (Or.inl ⟨rfl, rfl⟩))
        case measure => simp [intOf]
      · have q : bits .or .u64 X1 2 = X2 := t1.out rfl
        go_wp2_with fail
        go_round
        case rel => exact Or.inr (Or.inr (Or.inl ⟨rfl, rfl⟩))
        case measure => simp [intOf]
    · cases u
      · have q : X2 = X3 := n2.out rfl
        subst q
        go_wp2_with fail
        go_round
        case rel => exact Or.inr (Or.inr (Or.inr (Or.inl ⟨rfl, rfl⟩)))
        case measure => simp [intOf]
      · have q : bits .or .u64 X2 4 = X3 := t2.out rfl
        go_wp2_with fail
        go_round
        case rel => exact Or.inr (Or.inr (Or.inr (Or.inl ⟨rfl, rfl⟩)))
        case measure => simp [intOf]
    · cases a
      · have q : X3 = X4 := n3.out rfl
        subst q
        go_wp2_with fail
        go_round
        case rel => exact Or.inr (Or.inr (Or.inr (Or.inr (Or.inl ⟨rfl, rfl⟩))))
        case measure => simp [intOf]
      · have q : bits .or .u64 X3 32 = X4 := t3.out rfl
        go_wp2_with fail
        go_round
        case rel => exact Or.inr (Or.inr (Or.inr (Or.inr (Or.inl ⟨rfl, rfl⟩))))
        case measure => simp [intOf]
    · cases d
      · have q : X4 = X5 := n4.out rfl
        subst q
        go_wp2_with fail
        go_round
        case rel => exact Or.inr (Or.inr (Or.inr (Or.inr (Or.inr (Or.inl ⟨rfl, rfl⟩)))))
        case measure => simp [intOf]
      · have q : bits .or .u64 X4 64 = X5 := t4.out rfl
        go_wp2_with fail
        go_round
        case rel => exact Or.inr (Or.inr (Or.inr (Or.inr (Or.inr (Or.inl ⟨rfl, rfl⟩)))))
        case measure => simp [intOf]
    · cases l
      · have q : X5 = X6 := n5.out rfl
        subst q
        go_wp2_with fail
        go_round
        case rel => exact Or.inr (Or.inr (Or.inr (Or.inr (Or.inr (Or.inr (Or.inl ⟨rfl, rfl⟩))))))
        case measure => simp [intOf]
      · have q : bits .or .u64 X5 128 = X6 := t5.out rfl
        go_wp2_with fail
        go_round
        case rel => exact Or.inr (Or.inr (Or.inr (Or.inr (Or.inr (Or.inr (Or.inl ⟨rfl, rfl⟩))))))
        case measure => simp [intOf]
    · cases g
      · have q : X6 = X7 := n6.out rfl
        subst q
        go_wp2_with fail
        go_round
        case rel => exact Or.inr (Or.inr (Or.inr (Or.inr (Or.inr (Or.inr (Or.inr (Or.inl ⟨rfl, rfl⟩)))))))
        case measure => simp [intOf]
      · have q : bits .or .u64 X6 256 = X7 := t6.out rfl
        go_wp2_with fail
        go_round
        case rel => exact Or.inr (Or.inr (Or.inr (Or.inr (Or.inr (Or.inr (Or.inr (Or.inl ⟨rfl, rfl⟩)))))))
        case measure => simp [intOf]
    · cases n
      · have q : X7 = X8 := n7.out rfl
        subst q
        go_wp2_with fail
        go_round
        case rel => exact Or.inr (Or.inr (Or.inr (Or.inr (Or.inr (Or.inr (Or.inr (Or.inr (⟨rfl, rfl⟩))))))))
        case measure => simp [intOf]
      · have q : bits .or .u64 X7 9223372036854775808 = X8 := t7.out rfl
        go_wp2_with fail
        go_round
        case rel => exact Or.inr (Or.inr (Or.inr (Or.inr (Or.inr (Or.inr (Or.inr (Or.inr (⟨rfl, rfl⟩))))))))
        case measure => simp [intOf]
    · go_wp2_with fail
      go_returns
      exact ⟨rfl, (Go.Joins.below_alloc2 _ _ _).trans (below_drew' _ _)⟩

theorem pack_ok (p r u a d l g n : Bool) (f : Int) (f0 : 0 ≤ f) (f1 : f < 1048576) (w : World) (ht : Tab w) :
    Calls Tryd.prog 47 #[.agg #[.bool p, .bool r, .bool u, .bool a, .bool d, .bool l, .bool g, .bool n, .int .i64 f]] w fun e w' => e = .returned (.tuple #[.int .u64 (packV p r u a d l g n f), .int .i64 0]) ∧ Below w.heap.size w w' :=
  pack_walk p r u a d l g n f f0 f1 (f * 4096) (f * 4096 + fl p 1) (f * 4096 + fl p 1 + fl r 2) (f * 4096 + fl p 1 + fl r 2 + fl u 4) (f * 4096 + fl p 1 + fl r 2 + fl u 4 + fl a 32) (f * 4096 + fl p 1 + fl r 2 + fl u 4 + fl a 32 + fl d 64) (f * 4096 + fl p 1 + fl r 2 + fl u 4 + fl a 32 + fl d 64 + fl l 128) (f * 4096 + fl p 1 + fl r 2 + fl u 4 + fl a 32 + fl d 64 + fl l 128 + fl g 256) (f * 4096 + fl p 1 + fl r 2 + fl u 4 + fl a 32 + fl d 64 + fl l 128 + fl g 256 + fl n 9223372036854775808) rfl
    (fun q => by subst q; exact or_0  f f0 f1) (fun q => by subst q; rw [fl_false, Int.add_zero]) (fun q => by subst q; exact or_1 p f f0 f1) (fun q => by subst q; rw [fl_false, Int.add_zero]) (fun q => by subst q; exact or_2 p r f f0 f1) (fun q => by subst q; rw [fl_false, Int.add_zero]) (fun q => by subst q; exact or_3 p r u f f0 f1) (fun q => by subst q; rw [fl_false, Int.add_zero]) (fun q => by subst q; exact or_4 p r u a f f0 f1) (fun q => by subst q; rw [fl_false, Int.add_zero]) (fun q => by subst q; exact or_5 p r u a d f f0 f1) (fun q => by subst q; rw [fl_false, Int.add_zero]) (fun q => by subst q; exact or_6 p r u a d l f f0 f1) (fun q => by subst q; rw [fl_false, Int.add_zero]) (fun q => by subst q; exact or_7 p r u a d l g f f0 f1) (fun q => by subst q; rw [fl_false, Int.add_zero]) w ht
set_option maxHeartbeats 400000 in
theorem pack_lo (p r u a d l g n : Bool) (f : Int) (f0 : f < 0) (w : World) :
    Calls Tryd.prog 47 #[.agg #[.bool p, .bool r, .bool u, .bool a, .bool d, .bool l, .bool g, .bool n, .int .i64 f]] w fun e w' => e = .returned (.tuple #[.int .u64 0, .int .i64 1]) ∧ Below w.heap.size w w' := by
  go_enter Tryd.func47, Tryd.ntmps47
  go_wp2_with fail
  go_returns
  exact ⟨rfl, Go.Joins.below_alloc1 _ _⟩
set_option maxHeartbeats 400000 in
theorem pack_hi (p r u a d l g n : Bool) (f : Int) (f0 : 1048576 ≤ f) (w : World) :
    Calls Tryd.prog 47 #[.agg #[.bool p, .bool r, .bool u, .bool a, .bool d, .bool l, .bool g, .bool n, .int .i64 f]] w fun e w' => e = .returned (.tuple #[.int .u64 0, .int .i64 1]) ∧ Below w.heap.size w w' := by
  go_enter Tryd.func47, Tryd.ntmps47
  go_wp2_with fail
  go_returns
  exact ⟨rfl, Go.Joins.below_alloc1 _ _⟩
theorem pack_bad (p r u a d l g n : Bool) (f : Int) (h : ¬ (0 ≤ f ∧ f < 1048576)) (w : World) :
    Calls Tryd.prog 47 #[.agg #[.bool p, .bool r, .bool u, .bool a, .bool d, .bool l, .bool g, .bool n, .int .i64 f]] w fun e w' => e = .returned (.tuple #[.int .u64 0, .int .i64 1]) ∧ Below w.heap.size w w' := by
  by_cases c : f < 0
  · exact pack_lo p r u a d l g n f c w
  · exact pack_hi p r u a d l g n f (by omega) w
end Go.Proofs.YtkiclbnbnjbcaabDoor
