/- Tags: New, the looks, forget. -/
import Derived.Test.YtbdakoijhpobdaaK0
namespace Go.Proofs.Ytbdakoijhpobdaa
open Go.ChangeShapes Go.WideShapes Go.ChangeAt Go.RowKit Go.Maps
set_option linter.unusedSimpArgs false
set_option linter.unusedVariables false

def freshS (most : Int) : Tg := ⟨most, 1, 0, noneF, noneF⟩
set_option maxHeartbeats 400000 in
theorem new_ok (m : Int) (h0 : 1 ≤ m) (h1 : m ≤ 4095) (w : World) : Calls Try.prog 8 #[.int .i64 m] w fun e w' => e = .returned (.tuple #[.pointer (some ⟨w.heap.size + 2, 0, none⟩), .int .i64 0]) ∧ Own w w' (w.heap.size + 2) w.heap.size (w.heap.size + 1) 0 (freshS m) := by
  have e1 : decide (m < 1) = false := by simp; omega
  have e2 : decide (4095 < m) = false := by simp; omega
  have hmm := @run_makeMap Try.prog
  go_enter Try.func8, Try.ntmps8
  go_wp2_with fail
  go_returns
  refine ⟨rfl, ⟨?_, ⟨0, ?_⟩, ⟨0, ?_⟩, by omega, by omega, by omega⟩, ?_, by omega, by omega, by omega⟩
  · have := own1 ((w.alloc (.map #[] 0)).alloc (.map #[] 0)) (.cells #[.int .i64 m, .int .i64 1, .int .i64 0, .map (some w.heap.size), .map (some (w.heap.size + 1))] 51 (0, 0))
    simp only [World.size_alloc] at this
    exact this
  · exact (((MapC.made w).kept (grownBy_alloc1 _ _) (by simp)).kept (grownBy_alloc1 _ _) (by simp))
  · have := (MapC.made (w.alloc (.map #[] 0))).kept (grownBy_alloc1 _ (.cells #[.int .i64 m, .int .i64 1, .int .i64 0, .map (some w.heap.size), .map (some (w.heap.size + 1))] 51 (0, 0))) (by simp)
    simp only [World.size_alloc] at this
    exact this
  · exact below_new (below_new (Go.Joins.below_alloc1 _ _) _) _
set_option maxHeartbeats 400000 in
theorem new_no (m : Int) (h : m < 1 ∨ 4095 < m) (w : World) : Calls Try.prog 8 #[.int .i64 m] w fun e w' => e = .returned (.tuple #[.pointer none, .int .i64 1]) ∧ w' = w := by
  by_cases c : m < 1
  · have e1 : decide (m < 1) = true := by simp [c]
    go_enter Try.func8, Try.ntmps8
    go_wp2_with fail
    go_returns
    exact ⟨rfl, rfl⟩
  · have e1 : decide (m < 1) = false := by simp; omega
    have e2 : decide (4095 < m) = true := by simp; omega
    go_enter Try.func8, Try.ntmps8
    go_wp2_with fail
    go_returns
    exact ⟨rfl, rfl⟩
theorem put1 {w : World} {tb mb ob n : Nat} {S : Tg} (h : IsTags w tb mb ob n S) (v : Int) : IsTags (w.setCell ⟨tb, 1, none⟩ (.int .i64 v)) tb mb ob n ⟨S.most, v, S.gen, S.T, S.O⟩ := by
  obtain ⟨h1, ⟨c, h2⟩, ⟨d, h3⟩, n1, n2, n3⟩ := h
  have g := grown_setCell1 w tb 1 (.int .i64 v)
  exact ⟨Go.Joins.block_setCell h1 _, ⟨c, h2.kept g (by simp; omega)⟩, ⟨d, h3.kept g (by simp; omega)⟩, n1, n2, n3⟩
theorem put2 {w : World} {tb mb ob n : Nat} {S : Tg} (h : IsTags w tb mb ob n S) (v : Int) : IsTags (w.setCell ⟨tb, 2, none⟩ (.int .i64 v)) tb mb ob n ⟨S.most, S.next, v, S.T, S.O⟩ := by
  obtain ⟨h1, ⟨c, h2⟩, ⟨d, h3⟩, n1, n2, n3⟩ := h
  have g := grown_setCell1 w tb 2 (.int .i64 v)
  exact ⟨Go.Joins.block_setCell h1 _, ⟨c, h2.kept g (by simp; omega)⟩, ⟨d, h3.kept g (by simp; omega)⟩, n1, n2, n3⟩
theorem turnT {w w' : World} {tb mb ob n n' : Nat} {S : Tg} {f : Int → Option Int} (h : IsTags w tb mb ob n S) (hm : MapI w' mb n' f) (hg : w.grownBy w' (some mb)) (hn : n ≤ n') : IsTags w' tb mb ob n' ⟨S.most, S.next, S.gen, f, S.O⟩ := by
  obtain ⟨h1, ⟨c, h2⟩, ⟨d, h3⟩, n1, n2, n3⟩ := h
  exact ⟨(hg.block tb (blk_lt h1) (by simp; omega)).trans h1, hm, ⟨d, (h3.kept hg (by simp; omega)).mono hn⟩, n1, n2, n3⟩
theorem turnO {w w' : World} {tb mb ob n n' : Nat} {S : Tg} {f : Int → Option Int} (h : IsTags w tb mb ob n S) (hm : MapI w' ob n' f) (hg : w.grownBy w' (some ob)) (hn : n ≤ n') : IsTags w' tb mb ob n' ⟨S.most, S.next, S.gen, S.T, f⟩ := by
  obtain ⟨h1, ⟨c, h2⟩, ⟨d, h3⟩, n1, n2, n3⟩ := h
  exact ⟨(hg.block tb (blk_lt h1) (by simp; omega)).trans h1, ⟨c, (h2.kept hg (by simp; omega)).mono hn⟩, hm, n1, n2, n3⟩
theorem free {w : World} {tb mb ob n : Nat} {S : Tg} (h : IsTags w tb mb ob n S) (i : Nat) : w.frozen? ⟨tb, i, none⟩ = false := Go.Joins.unfrozen_of_block h.blk i
set_option maxHeartbeats 400000 in
theorem forget_any (tb mb ob n : Nat) (S : Tg) (g0 : 0 ≤ S.gen) (g1 : S.gen < 4611686018427387904) (w : World) (h : IsTags w tb mb ob n S) :
    Calls Try.prog 18 #[.pointer (some ⟨tb, 0, none⟩)] w fun e w' => e = .returned (.tuple #[]) ∧ IsTags w' tb mb ob n ⟨S.most, 1, S.gen + 1, noneF, noneF⟩ ∧ Kp tb mb ob w w' := by
  have H : Hid (IsTags w tb mb ob n S) := h
  have c3 : w.cell? ⟨tb, 3, none⟩ = some (.map (some mb)) := h.cell 3
  obtain ⟨m, hm⟩ := h.tags
  have lt0 := blk_lt h.blk
  obtain ⟨w1, r1, k1, q1⟩ := hm.clear 0
  have H1 : Hid (IsTags w1 tb mb ob n ⟨S.most, S.next, S.gen, noneF, S.O⟩) := turnT H.out ⟨0, k1⟩ q1 (Nat.le_refl _)
  obtain ⟨m2, hm2⟩ := H1.out.owns
  obtain ⟨w2, r2, k2, q2⟩ := hm2.clear 0
  have H2 : Hid (IsTags w2 tb mb ob n ⟨S.most, S.next, S.gen, noneF, noneF⟩) := turnO H1.out ⟨0, k2⟩ q2 (Nat.le_refl _)
  have c4 : w1.cell? ⟨tb, 4, none⟩ = some (.map (some ob)) := H1.out.cell 4
  have f1 : w2.frozen? ⟨tb, 1, none⟩ = false := free H2.out 1
  have d1 : w2.cell? ⟨tb, 1, none⟩ = some (.int .i64 S.next) := H2.out.cell 1
  have f2 : w2.frozen? ⟨tb, 2, none⟩ = false := free H2.out 2
  have d2 : w2.cell? ⟨tb, 2, none⟩ = some (.int .i64 S.gen) := H2.out.cell 2
  have lt2 := blk_lt H2.out.blk
  have KK : Hid (Kp tb mb ob w w2) := (Kp.grown q1 (by omega)).trans (Kp.grown q2 (by omega))
  clear h hm hm2 k1 k2 q1 q2
  go_enter Try.func18, Try.ntmps18
  go_wp2_with fail
  go_returns
  exact ⟨rfl, put2 (put1 H2.out 1) _, (KK.out.trans (Kp.grown (grown_setCell1 _ _ _ _) (by omega))).trans (Kp.grown (grown_setCell1 _ _ _ _) (by omega))⟩
end Go.Proofs.Ytbdakoijhpobdaa
