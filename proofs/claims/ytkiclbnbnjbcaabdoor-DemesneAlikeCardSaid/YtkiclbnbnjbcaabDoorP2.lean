/- The contracts of pte's flags, Unpack and Pack. -/
import Derived.Test.YtkiclbnbnjbcaabDoorP1
import Derived.StillTailTactics
namespace Go.Proofs.YtkiclbnbnjbcaabDoor
open Go.ChangeShapes Go.WideShapes Go.ChangeAt Go.RowKit
set_option linter.unusedSimpArgs false
set_option linter.unusedVariables false
set_option maxRecDepth 8000

set_option maxHeartbeats 400000 in
theorem flags_any (b : Nat) (w : World) : 
    Calls Tryd.prog 61 #[.pointer (some ⟨b, 0, none⟩)] w fun e w' => e = .returned (.agg #[.pointer (some ⟨b, 0, none⟩), .pointer (some ⟨b, 1, none⟩), .pointer (some ⟨b, 2, none⟩), .pointer (some ⟨b, 3, none⟩), .pointer (some ⟨b, 4, none⟩), .pointer (some ⟨b, 5, none⟩), .pointer (some ⟨b, 6, none⟩), .pointer (some ⟨b, 7, none⟩)]) ∧ ∃ o, w' = (w.alloc o).drew := by
  go_enter Tryd.func61, Tryd.ntmps61
  go_wp2_with fail
  go_still_tail 25, (by kernel_rfl)
  change wpList _ _ _ _ _ (World.drew _)
  go_wp2
  go_returns
  exact ⟨rfl, _, rfl⟩

theorem idx8_0 (a b c d e f g h : Value) (W : World) : (Instr.index 131 (.agg #[a, b, c, d, e, f, g, h]) (.int .i64 0)).run Tryd.prog W = .ok a W := by kernel_rfl
theorem idx8_1 (a b c d e f g h : Value) (W : World) : (Instr.index 131 (.agg #[a, b, c, d, e, f, g, h]) (.int .i64 1)).run Tryd.prog W = .ok b W := by kernel_rfl
theorem idx8_2 (a b c d e f g h : Value) (W : World) : (Instr.index 131 (.agg #[a, b, c, d, e, f, g, h]) (.int .i64 2)).run Tryd.prog W = .ok c W := by kernel_rfl
theorem idx8_3 (a b c d e f g h : Value) (W : World) : (Instr.index 131 (.agg #[a, b, c, d, e, f, g, h]) (.int .i64 3)).run Tryd.prog W = .ok d W := by kernel_rfl
theorem idx8_4 (a b c d e f g h : Value) (W : World) : (Instr.index 131 (.agg #[a, b, c, d, e, f, g, h]) (.int .i64 4)).run Tryd.prog W = .ok e W := by kernel_rfl
theorem idx8_5 (a b c d e f g h : Value) (W : World) : (Instr.index 131 (.agg #[a, b, c, d, e, f, g, h]) (.int .i64 5)).run Tryd.prog W = .ok f W := by kernel_rfl
theorem idx8_6 (a b c d e f g h : Value) (W : World) : (Instr.index 131 (.agg #[a, b, c, d, e, f, g, h]) (.int .i64 6)).run Tryd.prog W = .ok g W := by kernel_rfl
theorem idx8_7 (a b c d e f g h : Value) (W : World) : (Instr.index 131 (.agg #[a, b, c, d, e, f, g, h]) (.int .i64 7)).run Tryd.prog W = .ok h W := by kernel_rfl

theorem below_drew' (B : Nat) (w : World) : Below B w w.drew := ⟨rfl, rfl, rfl, Nat.le_refl _, fun _ _ => rfl⟩
/-- the table of the flags' bits lies where the program laid it -/
def Tab (w : World) : Prop := 0 < w.heap.size ∧ w.cell? ⟨0, 0, none⟩ = some (.int .i64 0) ∧ w.cell? ⟨0, 1, none⟩ = some (.int .i64 1) ∧ w.cell? ⟨0, 2, none⟩ = some (.int .i64 2) ∧ w.cell? ⟨0, 3, none⟩ = some (.int .i64 5) ∧ w.cell? ⟨0, 4, none⟩ = some (.int .i64 6) ∧ w.cell? ⟨0, 5, none⟩ = some (.int .i64 7) ∧ w.cell? ⟨0, 6, none⟩ = some (.int .i64 8) ∧ w.cell? ⟨0, 7, none⟩ = some (.int .i64 63)
theorem Tab.below {w w' : World} {B : Nat} (h : Tab w) (hb : Below B w w') (hB : 0 < B) : Tab w' := by
  have e : w'.heap[0]? = w.heap[0]? := hb.block 0 hB
  have hc : ∀ i, w'.cell? ⟨0, i, none⟩ = w.cell? ⟨0, i, none⟩ := fun i => by simp [World.cell?, e]
  refine ⟨Nat.lt_of_lt_of_le h.1 hb.size, ?_⟩
  simp only [hc]
  exact h.2
theorem Tab.keep {w w' : World} (h : Tab w) (hb : Below w.heap.size w w') : Tab w' := h.below hb h.1
/-- what a number says as an entry -/
def unp (x : Int) : Value := .agg #[.bool (bt (x)), .bool (bt (x / 2)), .bool (bt (x / 4)), .bool (bt (x / 32)), .bool (bt (x / 64)), .bool (bt (x / 128)), .bool (bt (x / 256)), .bool (bt (x / 9223372036854775808)), .int .i64 (x / 4096 % 1048576)]

set_option maxHeartbeats 400000 in
theorem unpack_any (x : Int) (x0 : 0 ≤ x) (x1 : x < 18446744073709551616) (w : World) (ht : Tab w) :
    Calls Tryd.prog 66 #[.int .u64 x] w fun e w' => e = .returned (unp x) ∧ Below w.heap.size w w' := by
  obtain ⟨hs, c0, c1, c2, c3, c4, c5, c6, c7⟩ := ht
  have F : Hid (∀ (b : Nat) (w : World), Calls Tryd.prog 61 #[.pointer (some ⟨b, 0, none⟩)] w fun e w' => e = .returned (.agg #[.pointer (some ⟨b, 0, none⟩), .pointer (some ⟨b, 1, none⟩), .pointer (some ⟨b, 2, none⟩), .pointer (some ⟨b, 3, none⟩), .pointer (some ⟨b, 4, none⟩), .pointer (some ⟨b, 5, none⟩), .pointer (some ⟨b, 6, none⟩), .pointer (some ⟨b, 7, none⟩)]) ∧ ∃ o, w' = (w.alloc o).drew) := flags_any
  have A0 : Hid _ := and_one (x) (by omega) (by omega)
  have A1 : Hid _ := and_one (x / 2) (by omega) (by omega)
  have A2 : Hid _ := and_one (x / 4) (by omega) (by omega)
  have A5 : Hid _ := and_one (x / 32) (by omega) (by omega)
  have A6 : Hid _ := and_one (x / 64) (by omega) (by omega)
  have A7 : Hid _ := and_one (x / 128) (by omega) (by omega)
  have A8 : Hid _ := and_one (x / 256) (by omega) (by omega)
  have A63 : Hid _ := and_one (x / 9223372036854775808) (by omega) (by omega)
  have i0 := idx8_0
  have i1 := idx8_1
  have i2 := idx8_2
  have i3 := idx8_3
  have i4 := idx8_4
  have i5 := idx8_5
  have i6 := idx8_6
  have i7 := idx8_7
  go_enter Tryd.func66, Tryd.ntmps66
  go_wp2_with fail
  refine (F.out _ _).mono ?_
  rintro e w1 ⟨rfl, o, rfl⟩
  go_wp2_with fail
  refine wp_loop_rounds 9 ?_
  rw [rounds_succ]; go_wp2_with fail
  rw [rounds_succ]; go_wp2_with fail
  rw [rounds_succ]; go_wp2_with fail
  rw [rounds_succ]; go_wp2_with fail
  rw [rounds_succ]; go_wp2_with fail
  rw [rounds_succ]; go_wp2_with fail
  rw [rounds_succ]; go_wp2_with fail
  rw [rounds_succ]; go_wp2_with fail
  rw [rounds_succ]; go_wp2_with fail
  go_returns
  refine ⟨?_, ?_⟩
  · unfold unp
    rw [A0.out, A1.out, A2.out, A5.out, A6.out, A7.out, A8.out, A63.out]
  · exact (Go.Joins.below_alloc3 _ _ _ _).trans (below_drew' _ _)

end Go.Proofs.YtkiclbnbnjbcaabDoor
