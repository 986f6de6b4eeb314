/- The closure that Walk defers. -/
import Derived.Test.YtaebihgegiddnaaDoorW7
import Derived.Defers
import Derived.Recover
import Derived.Deep.MidRow
namespace Go.Proofs.YtaebihgegiddnaaDoor
open Go.ChangeShapes Go.WideShapes Go.ChangeAt Go.RowKit Go.Maps
set_option linter.unusedSimpArgs false
set_option linter.unusedVariables false
set_option maxRecDepth 8000

set_option maxHeartbeats 400000 in
theorem catch_idle (p q r : Addr) (w : World) :
    CallsD Tryd.prog 17 #[.pointer (some p), .pointer (some q), .pointer (some r)] .returning w fun e u' w' => e = .returned (.tuple #[]) ∧ u' = .returning ∧ w' = w := by
  refine callsD_of_wpS Tryd.func17 rfl fun c₀ cs hu => ?_
  apply wpS_seq
  apply wpS_region
  simp [wpOpsS, go_sem, recoverD, hu, Tryd.ntmps17, Exit.thenS]
  apply wpS_seq
  apply wpS_seq
  apply wpS_region
  simp [wpOpsS, go_sem, Exit.thenS]
  refine wpS_cond (t := true) (by simp [Act.eval, Array.replicate]) ?_
  simp only [if_true]
  refine wpS_of_wp (wp_ret ?_)
  cases c₀
  simp_all [bodyPostS, results, Tryd.results17, Exit.thenS]
theorem rep19 : Array.replicate 19 undef = #[undef, undef, undef, undef, undef, undef, undef, undef, undef, undef, undef, undef, undef, undef, undef, undef, undef, undef, undef] := rfl
theorem kept_setCell1 (K : Nat → Prop) (b : Nat) (hb : ¬ K b) (o : Nat) (v : Value) (w : World) : Kept K w (w.setCell ⟨b, o, none⟩ v) := by
  have h : Below 0 w (w.setCell ⟨b, o, none⟩ v) := (Below.refl 0 w).setCell (Nat.zero_le _) v
  exact ⟨h.os, h.tape, h.output, h.size, fun k hk => Below.heap_setCell _ _ _ _ (fun e => hb (by rw [show b = k from e.symm]; exact hk))⟩
theorem cell_setCells_ne {w : World} {b o : Nat} {vs : List Value} {x : Addr} (h : x.block ≠ b) : (w.setCells b o vs).cell? x = w.cell? x := World.cell?_setCells_out b vs o w x (fun hb _ => absurd hb h)
theorem kept_setCells (K : Nat → Prop) (b : Nat) (hb : ¬ K b) : ∀ (vs : List Value) (o : Nat) (w : World), Kept K w (w.setCells b o vs)
  | [], _, w => Kept.refl K w
  | v :: r, o, w => by
    rw [World.setCells]
    exact Kept.trans (kept_setCell1 K b hb o v w) (kept_setCells K b hb r (o + 1) _)
theorem wanted_mp {c : Prop} [Decidable c] {a b : Prop} (h : c) (ha : a) : if c then a else b := by rw [if_pos h]; exact ha
theorem rep7 : ([.int .i64 0, .bool false, .bool false, .bool false, .bool false, .bool false, .bool false] : List Value).length = 7 := rfl
theorem fault_info : (Tryd.prog.info? 42).map (·.size) = some 2 := by kernel_rfl
theorem found_info : (Tryd.prog.info? 40).map (·.size) = some 7 := by kernel_rfl
def zfound : List Value := [.int .i64 0, .bool false, .bool false, .bool false, .bool false, .bool false, .bool false]
set_option maxHeartbeats 400000 in
theorem catch_ref (fb gb eb : Nat) (ad cd er : Int) (w : World) (tf : w.there fb 0 7) (tg : w.there gb 0 2) (ce : w.cell? ⟨eb, 0, none⟩ = some (.int .i64 0)) (fe : w.frozen? ⟨eb, 0, none⟩ = false)
    (lf : fb < w.heap.size) (lg : gb < w.heap.size) (le : eb < w.heap.size) (nfg : fb ≠ gb) (nfe : fb ≠ eb) (nge : gb ≠ eb) :
    CallsD Tryd.prog 17 #[.pointer (some ⟨fb, 0, none⟩), .pointer (some ⟨gb, 0, none⟩), .pointer (some ⟨eb, 0, none⟩)] (.panicking [refv ad cd er]) w fun e u' w' => e = .returned (.tuple #[]) ∧ u' = .panicking [{ (refv ad cd er) with recovered := true }] ∧
      w'.rangeAt fb 0 zfound ∧ w'.rangeAt gb 0 [.int .u64 ad, .int .i64 cd] ∧ w'.rangeAt eb 0 [.int .i64 er] ∧ Kept (fun k => k < w.heap.size ∧ k ≠ fb ∧ k ≠ gb ∧ k ≠ eb) w w' := by
  have heq : ∀ (x : Value) (W : World), (binOp .eql 20 (.iface 72 x) .nilIface).run Tryd.prog W = .ok (.bool false) W := fun _ _ => by kernel_rfl
  have hta : ∀ (W : World), (Instr.typeAssert (.iface 72 (.agg #[.int .u64 ad, .int .i64 cd, .int .i64 er])) 20 72 true).run Tryd.prog W = .ok (.tuple #[.agg #[.int .u64 ad, .int .i64 cd, .int .i64 er], .bool true]) W := fun _ => by kernel_rfl
  have TF : Hid (w.there fb 0 7) := tf
  have TG : Hid (w.there gb 0 2) := tg
  clear tf tg
  unfold refv
  refine callsD_of_wpS Tryd.func17 rfl fun c₀ cs hu => ?_
  apply wpS_seq
  apply wpS_region
  simp [wpOpsS, go_sem, recoverD, hu, Tryd.ntmps17, Exit.thenS]
  apply wpS_seq
  apply wpS_seq
  apply wpS_region
  simp [wpOpsS, go_sem, Exit.thenS, heq]
  refine wpS_cond (t := false) (by simp [Act.eval, Array.replicate]) ?_
  simp only [Bool.false_eq_true, if_false]
  refine wpS_of_wp (wp_skip ?_)
  simp only [rep19, Exit.thenS, List.setIfInBounds_toArray, List.set_cons_zero, List.set_cons_succ, List.append_toArray, List.cons_append, List.nil_append]
  refine wpS_of_wp ?_
  go_wp2_with fail
  refine wp_region_noPanic ?_
  refine wp_region_held_drew (S := fun u => u.cell? ⟨w.heap.size, 0, none⟩ = some (.int .u64 ad) ∧ u.cell? ⟨w.heap.size, 1, none⟩ = some (.int .i64 cd) ∧ u.cell? ⟨w.heap.size, 2, none⟩ = some (.int .i64 er) ∧ Hid (u.there fb 0 7) ∧ Hid (u.there gb 0 2) ∧ Hid (∃ x : Int, u.cell? ⟨eb, 0, none⟩ = some (.int .i64 x)) ∧ u.frozen? ⟨eb, 0, none⟩ = false) (by kernel_rfl) ?_ (fun hHeld => ?_)
  · refine ⟨by simp, by simp, by simp, World.there_alloc TF.out _, World.there_alloc TG.out _, ?_, ?_⟩
    · exact ⟨0, (World.cell?_alloc_lt _ _ _ le).trans ce⟩
    · exact (World.frozen?_alloc_past _ _ _ le).trans fe
  refine wpAnyH_take (i := 0) (oi := ⟨some 17, .build 40 #[], _, _, _, none⟩) (v := ?_) rfl (by kernel_rfl) (by kernel_rfl) (by kernel_rfl) (fun _ _ _ h => h) (Or.inl ⟨by rfl, ?_⟩) (by assumption) ?_
  rotate_left
  · intro w hSw; (try dsimp only at hSw); go_simp; (try with_reducible rfl)
  try simp only [Act.put, List.setIfInBounds_toArray, List.set_cons_zero, List.set_cons_succ]
  refine wpAnyH_take (i := 1) (oi := ⟨some 18, .fieldAddr 72 (.tmp 4) 0, _, _, _, none⟩) (v := ?_) rfl (by kernel_rfl) (by kernel_rfl) (by kernel_rfl) (fun _ _ _ h => h) (Or.inl ⟨by rfl, ?_⟩) (by assumption) ?_
  rotate_left
  · intro w hSw; (try dsimp only at hSw); go_simp; (try with_reducible rfl)
  try simp only [Act.put, List.setIfInBounds_toArray, List.set_cons_zero, List.set_cons_succ]
  refine wpAnyH_take (i := 2) (oi := ⟨some 19, .load 42 (.tmp 18), _, _, _, none⟩) (v := ?_) rfl (by kernel_rfl) (by kernel_rfl) (by kernel_rfl) (fun _ _ _ h => h) (Or.inl ⟨by rfl, ?_⟩) (by assumption) ?_
  rotate_left
  · intro w hSw; (try dsimp only at hSw); go_simp; (try with_reducible rfl)
  try simp only [Act.put, List.setIfInBounds_toArray, List.set_cons_zero, List.set_cons_succ]
  refine wpAnyH_take (i := 3) (oi := ⟨some 20, .fieldAddr 72 (.tmp 4) 1, _, _, _, none⟩) (v := ?_) rfl (by kernel_rfl) (by kernel_rfl) (by kernel_rfl) (fun _ _ _ h => h) (Or.inl ⟨by rfl, ?_⟩) (by assumption) ?_
  rotate_left
  · intro w hSw; (try dsimp only at hSw); go_simp; (try with_reducible rfl)
  try simp only [Act.put, List.setIfInBounds_toArray, List.set_cons_zero, List.set_cons_succ]
  refine wpAnyH_take (i := 4) (oi := ⟨some 21, .load 43 (.tmp 20), _, _, _, none⟩) (v := ?_) rfl (by kernel_rfl) (by kernel_rfl) (by kernel_rfl) (fun _ _ _ h => h) (Or.inl ⟨by rfl, ?_⟩) (by assumption) ?_
  rotate_left
  · intro w hSw; (try dsimp only at hSw); go_simp; (try with_reducible rfl)
  try simp only [Act.put, List.setIfInBounds_toArray, List.set_cons_zero, List.set_cons_succ]
  have K0 : Hid (Kept (fun k => k < w.heap.size ∧ k ≠ fb ∧ k ≠ gb ∧ k ≠ eb) w (w.alloc (.cells #[.int .u64 ad, .int .i64 cd, .int .i64 er] 72)).drew) := (kept_of_below (Go.Joins.below_alloc1 w _) (fun j hj => hj.1)).trans ⟨rfl, rfl, rfl, Nat.le_refl _, fun _ _ => rfl⟩
  generalize (w.alloc (.cells #[.int .u64 ad, .int .i64 cd, .int .i64 er] 72)).drew = W0 at hHeld K0 ⊢
  refine wpAnyH_ready (rs := [5]) (by kernel_rfl) (by simp) ?_
  refine AllReadyH.cons (o := ⟨none, .store 40 (.tmp 0) (.tmp 17), _, _, _, none⟩) rfl (fun K hK => ?_) AllReadyH.nil
  refine wanted_mp rfl ?_
  refine wp_store_mid _ _ _ rfl fb 0 #[.int .i64 0, .bool false, .bool false, .bool false, .bool false, .bool false, .bool false] rfl rfl (hHeld.2.2.2.1).out found_info (by simp [Value.oneCell']) ?_
  refine hK.out _ _ ?_ (fun hHeld1 => ?_)
  · exact ⟨(cell_setCells_ne (by exact Nat.ne_of_gt lf)).trans hHeld.1, (cell_setCells_ne (by exact Nat.ne_of_gt lf)).trans hHeld.2.1, (cell_setCells_ne (by exact Nat.ne_of_gt lf)).trans hHeld.2.2.1, World.there_setCells hHeld.2.2.2.1.out _ _ _, World.there_setCells hHeld.2.2.2.2.1.out _ _ _, ⟨hHeld.2.2.2.2.2.1.out.choose, (cell_setCells_ne (by exact Ne.symm nfe)).trans hHeld.2.2.2.2.2.1.out.choose_spec⟩, (World.frozen?_setCells _ _ _ _ _).trans hHeld.2.2.2.2.2.2⟩
  clear hK K
  try simp only [Act.put, List.setIfInBounds_toArray, List.set_cons_zero, List.set_cons_succ]
  have K1 : Hid (Kept (fun k => k < w.heap.size ∧ k ≠ fb ∧ k ≠ gb ∧ k ≠ eb) w (W0.setCells fb 0 [.int .i64 0, .bool false, .bool false, .bool false, .bool false, .bool false, .bool false])) := K0.out.trans (kept_setCells _ fb (fun h => h.2.1 rfl) _ 0 W0)
  have R1 : Hid ((W0.setCells fb 0 [.int .i64 0, .bool false, .bool false, .bool false, .bool false, .bool false, .bool false]).rangeAt fb 0 [.int .i64 0, .bool false, .bool false, .bool false, .bool false, .bool false, .bool false]) := World.rangeAt_setCells_same W0 fb 0 _ hHeld.2.2.2.1.out
  simp only [List.toList_toArray] at hHeld1 ⊢
  generalize W0.setCells fb 0 [.int .i64 0, .bool false, .bool false, .bool false, .bool false, .bool false, .bool false] = W1 at hHeld1 K1 R1 ⊢
  clear hHeld K0
  refine wpAnyH_ready (rs := [6]) (by kernel_rfl) (by simp) ?_
  refine AllReadyH.cons (o := ⟨none, .store 42 (.tmp 1) (.tmp 19), _, _, _, none⟩) rfl (fun K hK => ?_) AllReadyH.nil
  refine wanted_mp rfl ?_
  refine wp_store_mid _ _ _ rfl gb 0 #[.int .u64 ad, .int .i64 cd] rfl rfl (hHeld1.2.2.2.2.1).out fault_info (by simp [Value.oneCell']) ?_
  refine hK.out _ _ ?_ (fun hHeld2 => ?_)
  · exact ⟨(cell_setCells_ne (by exact Nat.ne_of_gt lg)).trans hHeld1.1, (cell_setCells_ne (by exact Nat.ne_of_gt lg)).trans hHeld1.2.1, (cell_setCells_ne (by exact Nat.ne_of_gt lg)).trans hHeld1.2.2.1, World.there_setCells hHeld1.2.2.2.1.out _ _ _, World.there_setCells hHeld1.2.2.2.2.1.out _ _ _, ⟨hHeld1.2.2.2.2.2.1.out.choose, (cell_setCells_ne (by exact Ne.symm nge)).trans hHeld1.2.2.2.2.2.1.out.choose_spec⟩, (World.frozen?_setCells _ _ _ _ _).trans hHeld1.2.2.2.2.2.2⟩
  clear hK K
  try simp only [Act.put, List.setIfInBounds_toArray, List.set_cons_zero, List.set_cons_succ]
  have K2 : Hid (Kept (fun k => k < w.heap.size ∧ k ≠ fb ∧ k ≠ gb ∧ k ≠ eb) w (W1.setCells gb 0 [.int .u64 ad, .int .i64 cd])) := K1.out.trans (kept_setCells _ gb (fun h => h.2.2.1 rfl) _ 0 W1)
  have R2 : Hid ((W1.setCells gb 0 [.int .u64 ad, .int .i64 cd]).rangeAt gb 0 [.int .u64 ad, .int .i64 cd]) := World.rangeAt_setCells_same W1 gb 0 _ hHeld1.2.2.2.2.1.out
  have R1' : Hid ((W1.setCells gb 0 [.int .u64 ad, .int .i64 cd]).rangeAt fb 0 [.int .i64 0, .bool false, .bool false, .bool false, .bool false, .bool false, .bool false]) := World.rangeAt_setCells_apart R1.out gb 0 _ (Or.inl nfg)
  simp only [List.toList_toArray] at hHeld2 ⊢
  generalize W1.setCells gb 0 [.int .u64 ad, .int .i64 cd] = W2 at hHeld2 K2 R2 R1' ⊢
  clear hHeld1 K1 R1
  obtain ⟨x2, c2⟩ := hHeld2.2.2.2.2.2.1.out
  have f2 := hHeld2.2.2.2.2.2.2
  have K3 : Hid (Kept (fun k => k < w.heap.size ∧ k ≠ fb ∧ k ≠ gb ∧ k ≠ eb) w (W2.setCell ⟨eb, 0, none⟩ (.int .i64 er))) := K2.out.trans (kept_setCell1 _ eb (fun h => h.2.2.2 rfl) 0 _ W2)
  have RA : Hid ((W2.setCell ⟨eb, 0, none⟩ (.int .i64 er)).rangeAt fb 0 [.int .i64 0, .bool false, .bool false, .bool false, .bool false, .bool false, .bool false]) := World.rangeAt_setCells_apart R1'.out eb 0 [.int .i64 er] (Or.inl nfe)
  have RB : Hid ((W2.setCell ⟨eb, 0, none⟩ (.int .i64 er)).rangeAt gb 0 [.int .u64 ad, .int .i64 cd]) := World.rangeAt_setCells_apart R2.out eb 0 [.int .i64 er] (Or.inl nge)
  have RC : Hid ((W2.setCell ⟨eb, 0, none⟩ (.int .i64 er)).rangeAt eb 0 [.int .i64 er]) := World.rangeAt_setCells_same W2 eb 0 [.int .i64 er] (fun j hj => by
    obtain rfl : j = 0 := by simp at hj; omega
    exact ⟨by rw [Nat.zero_add, c2]; rfl, f2⟩)
  have h2 := hHeld2
  clear hHeld2
  refine wpAnyH_ready (rs := [7]) (by kernel_rfl) (by simp) ?_
  refine AllReadyH.cons (o := ⟨none, .store 43 (.tmp 2) (.tmp 21), _, _, _, none⟩) rfl (fun K hK => ?_) AllReadyH.nil
  go_simp
  refine hK.out _ _ ?_ (fun hHeld3 => ?_)
  · exact ⟨(World.cell?_setCell_other _ _ _ _ (by intro e; injection e with e1; omega)).trans h2.1, (World.cell?_setCell_other _ _ _ _ (by intro e; injection e with e1; omega)).trans h2.2.1, (World.cell?_setCell_other _ _ _ _ (by intro e; injection e with e1; omega)).trans h2.2.2.1, World.there_setCells h2.2.2.2.1.out eb 0 [.int .i64 er], World.there_setCells h2.2.2.2.2.1.out eb 0 [.int .i64 er], ⟨er, by have := RC.out 0 _ rfl; rw [Nat.zero_add] at this; exact this⟩, (World.frozen?_setCell _ _ _ _).trans f2⟩
  clear hK K
  try simp only [Act.put, List.setIfInBounds_toArray, List.set_cons_zero, List.set_cons_succ]
  refine wpAnyH_done (by kernel_rfl) ?_ _
  refine NoPanic.normal ?_
  generalize W2.setCell ⟨eb, 0, none⟩ (.int .i64 er) = W3 at RA RB RC K3 ⊢
  clear hHeld3 h2 K2 R2 R1' c2 f2 heq hta TF TG ce fe
  simp (config := { zetaDelta := true }) only [bodyPostS]
  exact ⟨trivial, _, rfl, _, results_none rfl _ _ _, rfl, rfl, RA.out, RB.out, RC.out, K3.out⟩
end Go.Proofs.YtaebihgegiddnaaDoor
