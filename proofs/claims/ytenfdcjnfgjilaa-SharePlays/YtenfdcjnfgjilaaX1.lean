/- Grants: the document's Find. -/
import Derived.Test.YtenfdcjnfgjilaaX0
import Derived.Deep.DeepCutAuto
namespace Go.Proofs.Ytenfdcjnfgjilaa
open Go.ChangeShapes Go.WideShapes Go.ChangeAt Go.RowKit Go.Maps
set_option linter.unusedSimpArgs false
set_option linter.unusedVariables false
set_option maxRecDepth 8000
set_option maxRecDepth 8000
set_option maxRecDepth 8000

set_option maxHeartbeats 8000000 in
theorem rfind_any (base : Nat) (p : Option Addr) (c : Nat) (L : List Rq) (hL : L.length ≤ 256) (i : Int) (w : World) (h : IsRq w base p L) :
    Calls Try.prog 16 #[.slice p L.length c, .int .i64 i] w fun e w' => e = .returned (.tuple #[(findQ L i).1.val, .bool (findQ L i).2]) ∧ Below w.heap.size w w' := by
  obtain ⟨z, hz⟩ : ∃ z, findQ L i = z := ⟨_, rfl⟩
  rw [hz]
  have HZ : Hid (findQ L i = z) := hz
  have HB : Hid (IsRq w base p L) := h
  clear hz h
  obtain ⟨n, hn⟩ : ∃ n, L.length = n := ⟨_, rfl⟩
  have HN : Hid (L.length = n) := hn
  rw [hn] at hL ⊢
  clear hn
  go_enter Try.func16, Try.ntmps16
  go_wp2_with fail
  go_loopw [10] (fun x W => ∃ m : Nat, m ≤ n ∧ x = .int .i64 m ∧ Hid (IsRq W base p L) ∧ Hid (Below w.heap.size w W) ∧ Hid (W.heap[w.heap.size]? = some (.cells #[.int .i64 0, .int .i64 0, .int .i64 0, .int .i64 0, .bool false, .bool false, .int .i64 0] 41 (0, 0))) ∧ Hid (∀ k, k < m → (L.getD k Rq.zero).i ≠ i)) (fun x _ => n - (intOf x).toNat)
  case atStart => exact ⟨0, by omega, rfl, HB.out.below (Go.Joins.below_alloc1 _ _), Go.Joins.below_alloc1 _ _, own1 w _, fun k hk => absurd hk (Nat.not_lt_zero _)⟩
  case round =>
    obtain ⟨m, hm, rfl, hI, hb, hk, hno⟩ := hrel
    have lw : w.heap.size < wr.heap.size := (Array.getElem?_eq_some_iff.1 hk.out).1
    by_cases hlm : m < n
    · have hd : decide ((m : Int) < (n : Int)) = true := by simp; omega
      have m0 : (0 : Int) ≤ (m : Int) := by omega
      have m1 : (m : Int) < (n : Int) := by omega
      obtain ⟨g, rfl, g1, g2, gc⟩ := hI.out m (by rw [HN.out]; exact hlm)
      have HIT : Hid ((L.getD m Rq.zero).i = i → z = (L.getD m Rq.zero, true)) := fun e => by rw [← HZ.out]; exact findQ_hit i L m (by rw [HN.out]; exact hlm) hno.out e
      have NX : Hid ((L.getD m Rq.zero).i ≠ i → ∀ k, k < m + 1 → (L.getD k Rq.zero).i ≠ i) := fun e k hk => by
        by_cases q : k = m
        · subst q; exact e
        · exact hno.out k (by omega)
      generalize L.getD m Rq.zero = bx at gc HIT NX
      obtain ⟨qi, qf, qp, qd, qw, qt, qa⟩ := bx
      simp only at HIT NX
      have y0 : wr.cell? ⟨g, m * 7, none⟩ = some (.int .i64 qi) := gc 0 _ rfl
      have y1 : wr.cell? ⟨g, m * 7 + 1, none⟩ = some (.int .i64 qf) := gc 1 _ rfl
      have y2 : wr.cell? ⟨g, m * 7 + 2, none⟩ = some (.int .i64 qp) := gc 2 _ rfl
      have y3 : wr.cell? ⟨g, m * 7 + 3, none⟩ = some (.int .i64 qd) := gc 3 _ rfl
      have y4 : wr.cell? ⟨g, m * 7 + 4, none⟩ = some (.bool qw) := gc 4 _ rfl
      have y5 : wr.cell? ⟨g, m * 7 + 5, none⟩ = some (.bool qt) := gc 5 _ rfl
      have y6 : wr.cell? ⟨g, m * 7 + 6, none⟩ = some (.int .i64 qa) := gc 6 _ rfl
      clear gc
      by_cases e : qi = i
      · have ez := HIT.out e
        have e1 : (qi == i) = true := by simp [e]
        subst ez
        clear HIT NX HZ hI e
        go_upto_region 4 with fail
        have B1 : Hid (Below w.heap.size w (wr.alloc (.cells #[.int .i64 qi, .int .i64 qf, .int .i64 qp, .int .i64 qd, .bool qw, .bool qt, .int .i64 qa] 41))) := below_new hb.out _
        have K1 : Hid ((wr.alloc (.cells #[.int .i64 qi, .int .i64 qf, .int .i64 qp, .int .i64 qd, .bool qw, .bool qt, .int .i64 qa] 41)).heap[w.heap.size]? = some (.cells #[.int .i64 0, .int .i64 0, .int .i64 0, .int .i64 0, .bool false, .bool false, .int .i64 0] 41 (0, 0))) := ((Go.Joins.below_alloc1 wr _).block _ lw).trans hk.out
        have Y1 : Hid ((wr.alloc (.cells #[.int .i64 qi, .int .i64 qf, .int .i64 qp, .int .i64 qd, .bool qw, .bool qt, .int .i64 qa] 41)).heap[wr.heap.size]? = some (.cells #[.int .i64 qi, .int .i64 qf, .int .i64 qp, .int .i64 qd, .bool qw, .bool qt, .int .i64 qa] 41 (0, 0))) := own1 wr _
        have lU : wr.heap.size < (wr.alloc (.cells #[.int .i64 qi, .int .i64 qf, .int .i64 qp, .int .i64 qd, .bool qw, .bool qt, .int .i64 qa] 41)).heap.size := by simp
        clear hk hb y0 y1 y2 y3 y4 y5 y6
        generalize (wr.alloc (.cells #[.int .i64 qi, .int .i64 qf, .int .i64 qp, .int .i64 qd, .bool qw, .bool qt, .int .i64 qa] 41)) = U at B1 K1 Y1 lU ⊢
        generalize wr.heap.size = yb at lw Y1 lU ⊢
        have y0 : U.cell? ⟨yb, 0, none⟩ = some (.int .i64 qi) := cells9 Y1.out 0 _ rfl
        have y1 : U.cell? ⟨yb, 1, none⟩ = some (.int .i64 qf) := cells9 Y1.out 1 _ rfl
        have y2 : U.cell? ⟨yb, 2, none⟩ = some (.int .i64 qp) := cells9 Y1.out 2 _ rfl
        have y3 : U.cell? ⟨yb, 3, none⟩ = some (.int .i64 qd) := cells9 Y1.out 3 _ rfl
        have y4 : U.cell? ⟨yb, 4, none⟩ = some (.bool qw) := cells9 Y1.out 4 _ rfl
        have y5 : U.cell? ⟨yb, 5, none⟩ = some (.bool qt) := cells9 Y1.out 5 _ rfl
        have y6 : U.cell? ⟨yb, 6, none⟩ = some (.int .i64 qa) := cells9 Y1.out 6 _ rfl
        have n0 : U.cell? ⟨w.heap.size, 0, none⟩ = some (.int .i64 0) := cells9 K1.out 0 _ rfl
        have z0 : U.frozen? ⟨w.heap.size, 0, none⟩ = false := Go.Joins.unfrozen_of_block K1.out 0
        have n1 : U.cell? ⟨w.heap.size, 1, none⟩ = some (.int .i64 0) := cells9 K1.out 1 _ rfl
        have z1 : U.frozen? ⟨w.heap.size, 1, none⟩ = false := Go.Joins.unfrozen_of_block K1.out 1
        have n2 : U.cell? ⟨w.heap.size, 2, none⟩ = some (.int .i64 0) := cells9 K1.out 2 _ rfl
        have z2 : U.frozen? ⟨w.heap.size, 2, none⟩ = false := Go.Joins.unfrozen_of_block K1.out 2
        have n3 : U.cell? ⟨w.heap.size, 3, none⟩ = some (.int .i64 0) := cells9 K1.out 3 _ rfl
        have z3 : U.frozen? ⟨w.heap.size, 3, none⟩ = false := Go.Joins.unfrozen_of_block K1.out 3
        have n4 : U.cell? ⟨w.heap.size, 4, none⟩ = some (.bool false) := cells9 K1.out 4 _ rfl
        have z4 : U.frozen? ⟨w.heap.size, 4, none⟩ = false := Go.Joins.unfrozen_of_block K1.out 4
        have n5 : U.cell? ⟨w.heap.size, 5, none⟩ = some (.bool false) := cells9 K1.out 5 _ rfl
        have z5 : U.frozen? ⟨w.heap.size, 5, none⟩ = false := Go.Joins.unfrozen_of_block K1.out 5
        have n6 : U.cell? ⟨w.heap.size, 6, none⟩ = some (.int .i64 0) := cells9 K1.out 6 _ rfl
        have z6 : U.frozen? ⟨w.heap.size, 6, none⟩ = false := Go.Joins.unfrozen_of_block K1.out 6
        go_wp2_with fail
        refine bodyPost_ret (by simp [results, Try.results16, go_sem, n0, n1, n2, n3, n4, n5, n6]; try rfl) rfl ?_
        exact ⟨rfl, below7 B1.out (Nat.le_refl _)⟩
      · have e1 : (qi == i) = false := by simp [e]
        have N2 : Hid (∀ k, k < m + 1 → (L.getD k Rq.zero).i ≠ i) := NX.out e
        clear NX HIT
        go_wp2_with fail
        go_roundw
        case rel => exact ⟨m + 1, by omega, by go_num, hI.out.below (Go.Joins.below_alloc1 _ _), below_new hb.out _, ((Go.Joins.below_alloc1 wr _).block _ lw).trans hk.out, N2⟩
        case measure => simp [intOf]; omega
    · obtain rfl : m = n := by omega
      have hd : decide ((m : Int) < (m : Int)) = false := by simp
      have ez : z = (Rq.zero, false) := by rw [← HZ.out]; exact findQ_miss i L (fun k hk => hno.out k (by rw [← HN.out]; exact hk))
      subst ez
      clear HZ hno hI
      have n0 : wr.cell? ⟨w.heap.size, 0, none⟩ = some (.int .i64 0) := cells9 hk.out 0 _ rfl
      have z0 : wr.frozen? ⟨w.heap.size, 0, none⟩ = false := Go.Joins.unfrozen_of_block hk.out 0
      have n1 : wr.cell? ⟨w.heap.size, 1, none⟩ = some (.int .i64 0) := cells9 hk.out 1 _ rfl
      have z1 : wr.frozen? ⟨w.heap.size, 1, none⟩ = false := Go.Joins.unfrozen_of_block hk.out 1
      have n2 : wr.cell? ⟨w.heap.size, 2, none⟩ = some (.int .i64 0) := cells9 hk.out 2 _ rfl
      have z2 : wr.frozen? ⟨w.heap.size, 2, none⟩ = false := Go.Joins.unfrozen_of_block hk.out 2
      have n3 : wr.cell? ⟨w.heap.size, 3, none⟩ = some (.int .i64 0) := cells9 hk.out 3 _ rfl
      have z3 : wr.frozen? ⟨w.heap.size, 3, none⟩ = false := Go.Joins.unfrozen_of_block hk.out 3
      have n4 : wr.cell? ⟨w.heap.size, 4, none⟩ = some (.bool false) := cells9 hk.out 4 _ rfl
      have z4 : wr.frozen? ⟨w.heap.size, 4, none⟩ = false := Go.Joins.unfrozen_of_block hk.out 4
      have n5 : wr.cell? ⟨w.heap.size, 5, none⟩ = some (.bool false) := cells9 hk.out 5 _ rfl
      have z5 : wr.frozen? ⟨w.heap.size, 5, none⟩ = false := Go.Joins.unfrozen_of_block hk.out 5
      have n6 : wr.cell? ⟨w.heap.size, 6, none⟩ = some (.int .i64 0) := cells9 hk.out 6 _ rfl
      have z6 : wr.frozen? ⟨w.heap.size, 6, none⟩ = false := Go.Joins.unfrozen_of_block hk.out 6
      go_wp2_with fail
      refine bodyPost_ret (by simp [results, Try.results16, go_sem, n0, n1, n2, n3, n4, n5, n6]; try rfl) rfl ?_
      exact ⟨rfl, below7 hb.out (Nat.le_refl _)⟩
end Go.Proofs.Ytenfdcjnfgjilaa
