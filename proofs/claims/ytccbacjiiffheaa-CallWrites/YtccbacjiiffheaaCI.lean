/- The closure that Read defers. -/
import Derived.Test.YtccbacjiiffheaaC0
import Derived.Defers
import Derived.Recover
import Derived.Deep.MidRow
import Derived.Deep.DeepCutAuto
namespace Go.Proofs.Ytccbacjiiffheaa
open Go.ChangeShapes Go.WideShapes Go.ChangeAt Go.RowKit Go.Maps
set_option linter.unusedSimpArgs false
set_option linter.unusedVariables false

set_option maxHeartbeats 400000 in
theorem catch_idle (p q : Addr) (w : World) :
    CallsD Try.prog 21 #[.pointer (some p), .pointer (some q)] .returning w fun e u' w' => e = .returned (.tuple #[]) ∧ u' = .returning ∧ w' = w := by
  refine callsD_of_wpS Try.func21 rfl fun c₀ cs hu => ?_
  apply wpS_seq
  apply wpS_region
  simp [wpOpsS, go_sem, recoverD, hu, Try.ntmps21, Exit.thenS]
  apply wpS_seq
  apply wpS_seq
  apply wpS_region
  simp [wpOpsS, go_sem, Exit.thenS]
  refine wpS_cond (t := true) (by simp [Act.eval, Array.replicate]) ?_
  simp only [if_true]
  refine wpS_of_wp (wp_ret ?_)
  cases c₀
  simp_all [bodyPostS, results, Try.results21, Exit.thenS]
/-- what stays when two blocks turn -/
structure Kq (x y : Nat) (w w' : World) : Prop where
  os : w'.os = w.os
  tape : w'.tape = w.tape
  output : w'.output = w.output
  size : w.heap.size ≤ w'.heap.size
  block : ∀ k, k < w.heap.size → k ≠ x → k ≠ y → w'.heap[k]? = w.heap[k]?
theorem Kq.below {x y : Nat} {a b : World} (h : Below a.heap.size a b) : Kq x y a b := ⟨h.os, h.tape, h.output, h.size, fun j hj _ _ => h.block j hj⟩
theorem Kq.drew {x y : Nat} {a b : World} (h : Kq x y a b) : Kq x y a b.drew := ⟨h.os, h.tape, h.output, h.size, h.block⟩
theorem Kq.set {x y z : Nat} {a b : World} (h : Kq x y a b) (o : Nat) (v : Value) (hz : z = x ∨ z = y) : Kq x y a (b.setCell ⟨z, o, none⟩ v) := by
  have k := Kb.set b z o v
  exact ⟨k.os.trans h.os, k.tape.trans h.tape, k.output.trans h.output, Nat.le_trans h.size k.size, fun j hj h1 h2 => (k.block j (Nat.lt_of_lt_of_le hj h.size) (by omega)).trans (h.block j hj h1 h2)⟩
theorem Kq.scs {x y z : Nat} {a b : World} (h : Kq x y a b) (hz : z = x ∨ z = y) : ∀ (vs : List Value) (o : Nat), Kq x y a (b.setCells z o vs) := fun vs => by
  induction vs generalizing b with
  | nil => intro o; exact h
  | cons v r ih => intro o; rw [World.setCells]; exact ih (h.set o v hz) _
theorem rep17 : Array.replicate 17 undef = #[undef, undef, undef, undef, undef, undef, undef, undef, undef, undef, undef, undef, undef, undef, undef, undef, undef] := rfl
theorem cell_setCells_ne {w : World} {b o : Nat} {vs : List Value} {x : Addr} (h : x.block ≠ b) : (w.setCells b o vs).cell? x = w.cell? x := World.cell?_setCells_out b vs o w x (fun hb _ => absurd hb h)
theorem wanted_mp {c : Prop} [Decidable c] {a b : Prop} (h : c) (ha : a) : if c then a else b := by rw [if_pos h]; exact ha
theorem call_infoC : (Try.prog.info? 30).map (·.size) = some 13 := by kernel_rfl
def zcall : List Value := [.int .i64 0, .int .i64 0, .int .i64 0, .bool false, .bool false, .bool false, .int .u64 0, .int .i64 0, .int .u64 0, .int .i64 0, .int .i64 0, .int .i64 0, .int .i64 0]
set_option maxHeartbeats 1000000 in
theorem catch_ref (fb eb : Nat) (w : World) (tf : w.there fb 0 13) (ce : w.cell? ⟨eb, 0, none⟩ = some (.int .i64 0)) (fe : w.frozen? ⟨eb, 0, none⟩ = false)
    (lf : fb < w.heap.size) (le : eb < w.heap.size) (nfe : fb ≠ eb) :
    CallsD Try.prog 21 #[.pointer (some ⟨fb, 0, none⟩), .pointer (some ⟨eb, 0, none⟩)] (.panicking [refv]) w fun e u' w' => e = .returned (.tuple #[]) ∧ u' = .panicking [{ refv with recovered := true }] ∧
      w'.rangeAt fb 0 [.int .i64 0, .int .i64 0, .int .i64 0, .bool false, .bool false, .bool false, .int .u64 0, .int .i64 0, .int .u64 0, .int .i64 0, .int .i64 0, .int .i64 0, .int .i64 0] ∧ w'.rangeAt eb 0 [.int .i64 13] ∧ Kq fb eb w w' := by
  have heq : ∀ (x : Value) (W : World), (binOp .eql 20 (.iface 60 x) .nilIface).run Try.prog W = .ok (.bool false) W := fun _ _ => by kernel_rfl
  have hta : ∀ (W : World), (Instr.typeAssert (.iface 60 (.agg #[.int .i64 13])) 20 60 true).run Try.prog W = .ok (.tuple #[.agg #[.int .i64 13], .bool true]) W := fun _ => by kernel_rfl
  have TF : Hid (w.there fb 0 13) := tf
  clear tf
  unfold refv
  refine callsD_of_wpS Try.func21 rfl fun c₀ cs hu => ?_
  apply wpS_seq
  apply wpS_region
  simp [wpOpsS, go_sem, recoverD, hu, Try.ntmps21, Exit.thenS]
  apply wpS_seq
  apply wpS_seq
  apply wpS_region
  simp [wpOpsS, go_sem, Exit.thenS, heq]
  refine wpS_cond (t := false) (by simp [Act.eval, Array.replicate]) ?_
  simp only [Bool.false_eq_true, if_false]
  refine wpS_of_wp (wp_skip ?_)
  simp only [rep17, Exit.thenS, List.setIfInBounds_toArray, List.set_cons_zero, List.set_cons_succ, List.append_toArray, List.cons_append, List.nil_append]
  refine wpS_of_wp ?_
  go_upto_region 5 with fail
  refine wp_region_noPanic ?_
  refine wp_region_held_drew (S := fun u => u.cell? ⟨w.heap.size, 0, none⟩ = some (.int .i64 13) ∧ Hid (u.there fb 0 13) ∧ Hid (∃ x : Int, u.cell? ⟨eb, 0, none⟩ = some (.int .i64 x)) ∧ u.frozen? ⟨eb, 0, none⟩ = false) (by kernel_rfl) ?_ (fun hHeld => ?_)
  · refine ⟨by simp, World.there_alloc TF.out _, ?_, ?_⟩
    · exact ⟨0, (World.cell?_alloc_lt _ _ _ le).trans ce⟩
    · exact (World.frozen?_alloc_past _ _ _ le).trans fe
  refine wpAnyH_take (i := 0) (oi := ⟨some 16, .build 30 #[], _, _, _, none⟩) (v := ?_) rfl (by kernel_rfl) (by kernel_rfl) (by kernel_rfl) (fun _ _ _ h => h) (Or.inl ⟨by rfl, ?_⟩) (by assumption) ?_
  rotate_left
  · intro w hSw; (try dsimp only at hSw); go_simp; (try with_reducible rfl)
  try simp only [Act.put, List.setIfInBounds_toArray, List.set_cons_zero, List.set_cons_succ]
  refine wpAnyH_take (i := 1) (oi := ⟨some 17, .fieldAddr 60 (.tmp 3) 0, _, _, _, none⟩) (v := ?_) rfl (by kernel_rfl) (by kernel_rfl) (by kernel_rfl) (fun _ _ _ h => h) (Or.inl ⟨by rfl, ?_⟩) (by assumption) ?_
  rotate_left
  · intro w hSw; (try dsimp only at hSw); go_simp; (try with_reducible rfl)
  try simp only [Act.put, List.setIfInBounds_toArray, List.set_cons_zero, List.set_cons_succ]
  refine wpAnyH_take (i := 2) (oi := ⟨some 18, .load 31 (.tmp 17), _, _, _, none⟩) (v := ?_) rfl (by kernel_rfl) (by kernel_rfl) (by kernel_rfl) (fun _ _ _ h => h) (Or.inl ⟨by rfl, ?_⟩) (by assumption) ?_
  rotate_left
  · intro w hSw; (try dsimp only at hSw); go_simp; (try with_reducible rfl)
  try simp only [Act.put, List.setIfInBounds_toArray, List.set_cons_zero, List.set_cons_succ]
  have K0 : Hid (Kq fb eb w (w.alloc (.cells #[.int .i64 13] 60)).drew) := (Kq.below (Go.Joins.below_alloc1 w _)).drew
  generalize (w.alloc (.cells #[.int .i64 13] 60)).drew = W0 at hHeld K0 ⊢
  refine wpAnyH_ready (rs := [3]) (by kernel_rfl) (by simp) ?_
  refine AllReadyH.cons (o := ⟨none, .store 30 (.tmp 0) (.tmp 16), _, _, _, none⟩) rfl (fun K hK => ?_) AllReadyH.nil
  refine wanted_mp rfl ?_
  refine wp_store_mid _ _ _ rfl fb 0 #[.int .i64 0, .int .i64 0, .int .i64 0, .bool false, .bool false, .bool false, .int .u64 0, .int .i64 0, .int .u64 0, .int .i64 0, .int .i64 0, .int .i64 0, .int .i64 0] rfl rfl (hHeld.2.1).out call_infoC (by simp [Value.oneCell']) ?_
  refine hK.out _ _ ?_ (fun hHeld1 => ?_)
  · exact ⟨(cell_setCells_ne (by exact Nat.ne_of_gt lf)).trans hHeld.1, World.there_setCells hHeld.2.1.out _ _ _, ⟨hHeld.2.2.1.out.choose, (cell_setCells_ne (by exact Ne.symm nfe)).trans hHeld.2.2.1.out.choose_spec⟩, (World.frozen?_setCells _ _ _ _ _).trans hHeld.2.2.2⟩
  clear hK K
  try simp only [Act.put, List.setIfInBounds_toArray, List.set_cons_zero, List.set_cons_succ]
  have K1 : Hid (Kq fb eb w (W0.setCells fb 0 [.int .i64 0, .int .i64 0, .int .i64 0, .bool false, .bool false, .bool false, .int .u64 0, .int .i64 0, .int .u64 0, .int .i64 0, .int .i64 0, .int .i64 0, .int .i64 0])) := K0.out.scs (Or.inl rfl) _ _
  have R1 : Hid ((W0.setCells fb 0 [.int .i64 0, .int .i64 0, .int .i64 0, .bool false, .bool false, .bool false, .int .u64 0, .int .i64 0, .int .u64 0, .int .i64 0, .int .i64 0, .int .i64 0, .int .i64 0]).rangeAt fb 0 [.int .i64 0, .int .i64 0, .int .i64 0, .bool false, .bool false, .bool false, .int .u64 0, .int .i64 0, .int .u64 0, .int .i64 0, .int .i64 0, .int .i64 0, .int .i64 0]) := World.rangeAt_setCells_same W0 fb 0 _ hHeld.2.1.out
  simp only [List.toList_toArray] at hHeld1 ⊢
  generalize W0.setCells fb 0 [.int .i64 0, .int .i64 0, .int .i64 0, .bool false, .bool false, .bool false, .int .u64 0, .int .i64 0, .int .u64 0, .int .i64 0, .int .i64 0, .int .i64 0, .int .i64 0] = W2 at hHeld1 K1 R1 ⊢
  clear hHeld K0
  obtain ⟨x2, c2⟩ := hHeld1.2.2.1.out
  have f2 := hHeld1.2.2.2
  have K3 : Hid (Kq fb eb w (W2.setCell ⟨eb, 0, none⟩ (.int .i64 13))) := K1.out.set _ _ (Or.inr rfl)
  have RA : Hid ((W2.setCell ⟨eb, 0, none⟩ (.int .i64 13)).rangeAt fb 0 [.int .i64 0, .int .i64 0, .int .i64 0, .bool false, .bool false, .bool false, .int .u64 0, .int .i64 0, .int .u64 0, .int .i64 0, .int .i64 0, .int .i64 0, .int .i64 0]) := World.rangeAt_setCells_apart R1.out eb 0 [.int .i64 13] (Or.inl nfe)
  have RC : Hid ((W2.setCell ⟨eb, 0, none⟩ (.int .i64 13)).rangeAt eb 0 [.int .i64 13]) := World.rangeAt_setCells_same W2 eb 0 [.int .i64 13] (fun j hj => by
    obtain rfl : j = 0 := by simp at hj; omega
    exact ⟨by rw [Nat.zero_add, c2]; rfl, f2⟩)
  have h2 := hHeld1
  clear hHeld1
  refine wpAnyH_ready (rs := [4]) (by kernel_rfl) (by simp) ?_
  refine AllReadyH.cons (o := ⟨none, .store 31 (.tmp 1) (.tmp 18), _, _, _, none⟩) rfl (fun K hK => ?_) AllReadyH.nil
  go_simp
  refine hK.out _ _ ?_ (fun hHeld3 => ?_)
  · exact ⟨(World.cell?_setCell_other _ _ _ _ (by intro e; injection e with e1; omega)).trans h2.1, World.there_setCells h2.2.1.out eb 0 [.int .i64 13], ⟨13, by have := RC.out 0 _ rfl; rw [Nat.zero_add] at this; exact this⟩, (World.frozen?_setCell _ _ _ _).trans f2⟩
  clear hK K
  try simp only [Act.put, List.setIfInBounds_toArray, List.set_cons_zero, List.set_cons_succ]
  refine wpAnyH_done (by kernel_rfl) ?_ _
  refine NoPanic.normal ?_
  generalize W2.setCell ⟨eb, 0, none⟩ (.int .i64 13) = W3 at RA RC K3 ⊢
  clear hHeld3 h2 K1 R1 c2 f2 heq hta TF ce fe
  simp (config := { zetaDelta := true }) only [bodyPostS]
  exact ⟨trivial, _, rfl, _, results_none rfl _ _ _, rfl, rfl, RA.out, RC.out, K3.out⟩
end Go.Proofs.Ytccbacjiiffheaa
