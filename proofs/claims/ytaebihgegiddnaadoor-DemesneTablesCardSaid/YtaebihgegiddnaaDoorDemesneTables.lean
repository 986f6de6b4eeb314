/- DemesneTables: tables that are laid into memory entry by entry lead a page's address to its frame with the rights that all of them have, and no other page anywhere. No condition. -/
import Derived.Test.YtaebihgegiddnaaDoorRows
import Derived.Test.YtaebihgegiddnaaDoorCards
import Derived.Test.YtaebihgegiddnaaDoorTie
import Derived.ProofKit
import Derived.OpenShut
import Derived.Stop.Joined
import Derived.SevenTiedAt
import Derived.Test.YtaebihgegiddnaaDoorDD
import Derived.Deep.DeepCutAuto
import Derived.Deep.CutBlock
namespace Go.Proofs.YtaebihgegiddnaaDoor.demesneTables
open Go.ChangeShapes Go.WideShapes Go.ChangeAt Go.RowKit
set_option linter.unusedSimpArgs false
set_option linter.unusedVariables false
set_option maxRecDepth 8000

set_option maxHeartbeats 16000000 in
theorem walk (a0a a0b a0c a0d : Int) (w0a : (Lit.int .i64 a0a).wf = true) (w0b : (Lit.int .i64 a0b).wf = true) (w0c : (Lit.int .i64 a0c).wf = true) (w0d : (Lit.int .i64 a0d).wf = true) (a1 : Int) (w1 : (Lit.int .i64 a1).wf = true) (a2 : Int) (w2 : (Lit.int .i64 a2).wf = true) (C3 : List Value) (rW3 rU3 rN3 : Nat → Bool) (e3 : IsR4 C3 rW3 rU3 rN3) (s4 : B3) (a5 : Int) (w5 : (Lit.int .u64 a5).wf = true) (w : World) (ht : Tab w)  :
    Calls Tryd.prog 4 #[.agg #[.int .i64 a0a, .int .i64 a0b, .int .i64 a0c, .int .i64 a0d], .int .i64 a1, .int .i64 a2, .agg C3.toArray, s4.val, .int .u64 a5] w fun e w' => e = .returned (.bool true) ∧ Below w.heap.size w w' := by
  obtain ⟨x, u, f⟩ := s4
  have hot := wf_u64 w5
  have mx : 2000 < maxLen := by decide +kernel
  have MX : Hid (2000 < maxLen) := mx
  clear mx w5 w0a w0b w0c w0d w1 w2
  obtain ⟨A, hA⟩ : ∃ A : Nat → Int, A = fun k => if k = 0 then a0a else if k = 1 then a0b else if k = 2 then a0c else a0d := ⟨_, rfl⟩
  have hA0 : a0a = A 0 := by rw [hA]; rfl
  have hA1 : a0b = A 1 := by rw [hA]; rfl
  have hA2 : a0c = A 2 := by rw [hA]; rfl
  have hA3 : a0d = A 3 := by rw [hA]; rfl
  subst hA0 hA1 hA2 hA3
  clear hA
  have TB : Hid (∀ W : World, Below w.heap.size w W → Tab W) := fun W hb => ht.below hb ht.1
  have lw0 : Hid (0 < w.heap.size) := ht.1
  have PK0 : Hid (∀ W : World, Tab W → Calls Tryd.prog 10 #[.agg #[.bool true, .bool true, .bool false, .bool false, .bool false, .bool false, .bool false, .bool false, .int .i64 5]] W fun e w' => e = .returned (.tuple #[.int .u64 20483, .int .i64 0]) ∧ Below W.heap.size W w') := fun W h => pack_ok true true false false false false false false 5 (by omega) (by omega) W h
  have NC : Hid (∀ W : World, Calls Tryd.prog 12 #[.int .i64 4, .slice none 0 0] W fun e w' => e = .returned (.tuple #[.pointer (some ⟨W.heap.size + 1, 0, none⟩), .int .i64 0]) ∧ IsRam w' W.heap.size (W.heap.size + 1) (hasF 4) 4 (fun _ => 0) 0 ∧ Below W.heap.size W w') := (nw_at 4 (by omega) (by omega)).out
  have A1 : Hid (Blk (((w.alloc (.cells #[.int .i64 (A 0), .int .i64 (A 1), .int .i64 (A 2), .int .i64 (A 3)] 52)).alloc (.cells C3.toArray 55)).alloc (.cells #[.bool x, .bool u, .bool f] 34)) w.heap.size [.int .i64 (A 0), .int .i64 (A 1), .int .i64 (A 2), .int .i64 (A 3)] 52) := (Blk.made w [.int .i64 (A 0), .int .i64 (A 1), .int .i64 (A 2), .int .i64 (A 3)] 52).below (Go.Joins.below_alloc2 _ _ _)
  have R1 : Hid (Blk (((w.alloc (.cells #[.int .i64 (A 0), .int .i64 (A 1), .int .i64 (A 2), .int .i64 (A 3)] 52)).alloc (.cells C3.toArray 55)).alloc (.cells #[.bool x, .bool u, .bool f] 34)) (w.heap.size + 1) C3 55) := by
    have q := Blk.made (w.alloc (.cells #[.int .i64 (A 0), .int .i64 (A 1), .int .i64 (A 2), .int .i64 (A 3)] 52)) C3 55
    rw [World.size_alloc] at q; exact q.below (Go.Joins.below_alloc1 _ _)
  have C1 : Hid (Blk (((w.alloc (.cells #[.int .i64 (A 0), .int .i64 (A 1), .int .i64 (A 2), .int .i64 (A 3)] 52)).alloc (.cells C3.toArray 55)).alloc (.cells #[.bool x, .bool u, .bool f] 34)) (w.heap.size + 1 + 1) [.bool x, .bool u, .bool f] 34) := by
    have q := Blk.made ((w.alloc (.cells #[.int .i64 (A 0), .int .i64 (A 1), .int .i64 (A 2), .int .i64 (A 3)] 52)).alloc (.cells C3.toArray 55)) [.bool x, .bool u, .bool f] 34
    rw [World.size_alloc, World.size_alloc] at q; exact q
  have B1 : Hid (Below w.heap.size w (((w.alloc (.cells #[.int .i64 (A 0), .int .i64 (A 1), .int .i64 (A 2), .int .i64 (A 3)] 52)).alloc (.cells C3.toArray 55)).alloc (.cells #[.bool x, .bool u, .bool f] 34))) := Go.Joins.below_alloc3 _ _ _ _
  clear ht
  go_enter Tryd.func4, Tryd.ntmps4
  go_wp2_with fail
  refine (PK0.out _ (TB.out _ B1.out)).mono ?_
  rintro e u1 ⟨rfl, hb⟩
  have B2 : Hid (Below w.heap.size w u1) := below_then B1.out hb
  have A2 : Hid (Blk u1 w.heap.size [.int .i64 (A 0), .int .i64 (A 1), .int .i64 (A 2), .int .i64 (A 3)] 52) := A1.out.below hb
  have R2 : Hid (Blk u1 (w.heap.size + 1) C3 55) := R1.out.below hb
  have C2 : Hid (Blk u1 (w.heap.size + 1 + 1) [.bool x, .bool u, .bool f] 34) := C1.out.below hb
  clear hb B1 A1 R1 C1 PK0
  have ca0 : u1.cell? ⟨w.heap.size, 0, none⟩ = some (.int .i64 (A 0)) := Blk.cell A2.out 0
  have ca1 : u1.cell? ⟨w.heap.size, 1, none⟩ = some (.int .i64 (A 1)) := Blk.cell A2.out 1
  have ca2 : u1.cell? ⟨w.heap.size, 2, none⟩ = some (.int .i64 (A 2)) := Blk.cell A2.out 2
  have ca3 : u1.cell? ⟨w.heap.size, 3, none⟩ = some (.int .i64 (A 3)) := Blk.cell A2.out 3
  by_cases good : 0 ≤ A 0 ∧ A 0 < 512 ∧ 0 ≤ A 1 ∧ A 1 < 512 ∧ 0 ≤ A 2 ∧ A 2 < 512 ∧ 0 ≤ A 3 ∧ A 3 < 512 ∧ 0 ≤ a1 ∧ a1 < 4096
  rotate_left
  · have JB : Hid (∀ W : World, Calls Tryd.prog 11 #[.agg #[.int .i64 (A 0), .int .i64 (A 1), .int .i64 (A 2), .int .i64 (A 3)], .int .i64 a1] W fun e w' => e = .returned (.tuple #[.int .u64 0, .int .i64 1]) ∧ Below W.heap.size W w') := fun W => join_bad (A 0) (A 1) (A 2) (A 3) a1 good W
    go_wp2_with fail
    refine (JB.out _).mono ?_
    rintro e u2 ⟨rfl, hb⟩
    have B3 : Hid (Below w.heap.size w u2) := below_then B2.out hb
    clear hb JB
    go_wp2_with fail
    refine (NC.out _).mono ?_
    rintro e u3 ⟨rfl, _, hb⟩
    have B4 : Hid (Below w.heap.size w u3) := below_then B3.out hb
    clear hb
    go_wp2_with fail
    go_ret
    exact ⟨rfl, B4.out⟩
  obtain ⟨addr, hAd⟩ : ∃ addr, addr = ext ((((A 0 * 512 + A 1) * 512 + A 2) * 512 + A 3) * 4096 + a1) := ⟨_, rfl⟩
  have JG : Hid (∀ W : World, Calls Tryd.prog 11 #[.agg #[.int .i64 (A 0), .int .i64 (A 1), .int .i64 (A 2), .int .i64 (A 3)], .int .i64 a1] W fun e w' => e = .returned (.tuple #[.int .u64 addr, .int .i64 0]) ∧ Below W.heap.size W w') := fun W => by
    rw [hAd]; exact join_ok (A 0) (A 1) (A 2) (A 3) a1 good.1 good.2.1 good.2.2.1 good.2.2.2.1 good.2.2.2.2.1 good.2.2.2.2.2.1 good.2.2.2.2.2.2.1 good.2.2.2.2.2.2.2.1 good.2.2.2.2.2.2.2.2.1 good.2.2.2.2.2.2.2.2.2 W
  have AD : Hid ((ext addr = addr ∧ 0 ≤ addr ∧ addr < 18446744073709551616) ∧ pL addr 4 = A 0 ∧ pL addr 3 = A 1 ∧ pL addr 2 = A 2 ∧ pL addr 1 = A 3) := by
    have q := join_parts (A 0) (A 1) (A 2) (A 3) a1 good.1 good.2.1 good.2.2.1 good.2.2.2.1 good.2.2.2.2.1 good.2.2.2.2.2.1 good.2.2.2.2.2.2.1 good.2.2.2.2.2.2.2.1 good.2.2.2.2.2.2.2.2.1 good.2.2.2.2.2.2.2.2.2 addr hAd.symm
    have b := ext_bd ((((A 0 * 512 + A 1) * 512 + A 2) * 512 + A 3) * 4096 + a1)
    rw [← hAd] at b
    exact ⟨⟨by rw [hAd]; exact ext_ext _, b.1, b.2⟩, (pL_4 addr).trans q.1, (pL_3 addr).trans q.2.1, (pL_2 addr).trans q.2.2.1, (pL_1 addr).trans q.2.2.2.1⟩
  have AB : Hid (∀ k, k < 4 → 0 ≤ A k ∧ A k < 512) := fun k hk => by
    match k, hk with
    | 0, _ => exact ⟨good.1, good.2.1⟩
    | 1, _ => exact ⟨good.2.2.1, good.2.2.2.1⟩
    | 2, _ => exact ⟨good.2.2.2.2.1, good.2.2.2.2.2.1⟩
    | 3, _ => exact ⟨good.2.2.2.2.2.2.1, good.2.2.2.2.2.2.2.1⟩
  clear hAd good
  go_wp2_with fail
  refine (JG.out _).mono ?_
  rintro e u2 ⟨rfl, hb⟩
  have B3 : Hid (Below w.heap.size w u2) := below_then B2.out hb
  have A3 : Hid (Blk u2 w.heap.size [.int .i64 (A 0), .int .i64 (A 1), .int .i64 (A 2), .int .i64 (A 3)] 52) := A2.out.below hb
  have R3 : Hid (Blk u2 (w.heap.size + 1) C3 55) := R2.out.below hb
  have C3' : Hid (Blk u2 (w.heap.size + 1 + 1) [.bool x, .bool u, .bool f] 34) := C2.out.below hb
  clear hb JG B2 A2 R2 C2 ca0 ca1 ca2 ca3
  go_wp2_with fail
  refine (NC.out _).mono ?_
  rintro e u3 ⟨rfl, hr, hb⟩
  have B4 : Hid (Below w.heap.size w u3) := below_then B3.out hb
  have A4 : Hid (Blk u3 w.heap.size [.int .i64 (A 0), .int .i64 (A 1), .int .i64 (A 2), .int .i64 (A 3)] 52) := A3.out.below hb
  have R4 : Hid (Blk u3 (w.heap.size + 1) C3 55) := R3.out.below hb
  have C4 : Hid (Blk u3 (w.heap.size + 1 + 1) [.bool x, .bool u, .bool f] 34) := C3'.out.below hb
  have lc2 : (w.heap.size + 1 + 1) < u2.heap.size := blk_lt C3'.out
  have szz := hb.size
  have RR : Hid (IsRam u3 u2.heap.size (u2.heap.size + 1) (hasF 4) 4 (fun _ => 0) 0) := hr
  obtain ⟨rb, hrb⟩ : ∃ rb, rb = u2.heap.size + 1 := ⟨_, rfl⟩
  clear hb hr B3 A3 R3 C3' NC
  by_cases f0 : a2 < 0
  · have d0 : decide (a2 < 0) = true := decide_eq_true f0
    go_wp2_with fail
    go_ret
    exact ⟨rfl, B4.out⟩
  have d0 : decide (a2 < 0) = false := decide_eq_false f0
  by_cases f1 : 1048576 ≤ a2
  · have d1 : decide (1048576 ≤ a2) = true := decide_eq_true f1
    go_wp2_with fail
    go_ret
    exact ⟨rfl, B4.out⟩
  have d1 : decide (1048576 ≤ a2) = false := decide_eq_false f1
  have f0' : 0 ≤ a2 := by omega
  have f1' : a2 < 1048576 := by omega
  obtain ⟨pB, hpB⟩ : ∃ pB, pB = u3.heap.size := ⟨_, rfl⟩
  have L0 : Hid (DL w (u3.alloc (.cells #[.bool true, .bool true, .bool true] 38)) rb pB A C3 x u f rW3 rU3 rN3 a2 0) := by
    obtain ⟨K, S, hK, r5⟩ := Ram5.ofRam RR.out
    rw [← hrb] at r5
    have rs := r5.ok.2.1
    have q := r5.add (.cells #[.bool true, .bool true, .bool true] 38)
    have qp := Blk.made u3 [.bool true, .bool true, .bool true] 38
    rw [← hpB] at qp q
    exact ⟨⟨_, S, 0, q, by omega, fun e => by have := rs _ e; omega, fun j hj => Or.inl (hK j (by omega)), Or.inr rfl⟩, below_new B4.out _, A4.out.below (Go.Joins.below_alloc1 _ _), R4.out.below (Go.Joins.below_alloc1 _ _), C4.out.below (Go.Joins.below_alloc1 _ _), qp, by omega⟩
  go_upto_block 0 with fail
  rw [← hrb, ← hpB]
  clear B4 A4 R4 C4 RR szz lc2 hrb hpB f0 f1
  go_cut [20] (fun i wx => Hid (DL w wx rb pB A C3 x u f rW3 rU3 rN3 a2 4))
  case first =>
    go_wp2_with fail
    go_loopw [20] (fun i W => ∃ k : Nat, k ≤ 4 ∧ i = .int .i64 k ∧ Hid (DL w W rb pB A C3 x u f rW3 rU3 rN3 a2 k)) (fun i _ => 4 - (intOf i).toNat)
    case atStart => exact ⟨0, by omega, rfl, L0⟩
    case round =>
      clear L0
      obtain ⟨k, hk, rfl, hd⟩ := hrel
      by_cases hlt : k < 4
      rotate_left
      · have k4 : k = 4 := by omega
        subst k4
        have hx : decide (((4 : Nat) : Int) < 4) = false := by decide
        go_wp2_with fail
        go_meet
        exact hd
      have hd4 : decide ((k : Int) < 4) = true := by simp; omega
      have hd0 : decide ((k : Int) < 0) = false := by simp
      obtain ⟨q1, q2, q3⟩ := e3.2 k hlt
      obtain ⟨bW, hbW⟩ : ∃ b, rW3 k = b := ⟨_, rfl⟩
      obtain ⟨bU, hbU⟩ : ∃ b, rU3 k = b := ⟨_, rfl⟩
      obtain ⟨bN, hbN⟩ : ∃ b, rN3 k = b := ⟨_, rfl⟩
      have HB : Hid (rW3 k = bW ∧ rU3 k = bU ∧ rN3 k = bN) := ⟨hbW, hbU, hbN⟩
      rw [hbW] at q1
      rw [hbU] at q2
      rw [hbN] at q3
      have rc1 : wr.cell? ⟨(w.heap.size + 1), k * 9 + 1, none⟩ = some (.bool bW) := (Blk.cell hd.out.r4 (k * 9 + 1)).trans q1
      have rc2 : wr.cell? ⟨(w.heap.size + 1), k * 9 + 2, none⟩ = some (.bool bU) := (Blk.cell hd.out.r4 (k * 9 + 2)).trans q2
      have rc7 : wr.cell? ⟨(w.heap.size + 1), k * 9 + 7, none⟩ = some (.bool bN) := (Blk.cell hd.out.r4 (k * 9 + 7)).trans q3
      have lr : (w.heap.size + 1) < wr.heap.size := blk_lt hd.out.r4
      clear q1 q2 q3 hbW hbU hbN
      go_upto_region 12 with fail
      go_cut [21] (fun v wx => v = .pointer (some ⟨wr.heap.size, 0, none⟩) ∧ Hid (Blk wx wr.heap.size [.bool true, .bool bW, .bool bU, .bool false, .bool false, .bool false, .bool false, .bool bN, .int .i64 ((k : Int) + 1)] 54) ∧ Hid (Below wr.heap.size wr wx))
      case first =>
        go_region
        all_goals (try go_wp2_with fail)
        all_goals go_meet
        all_goals exact ⟨rfl, Blk.made wr [.bool true, .bool bW, .bool bU, .bool false, .bool false, .bool false, .bool false, .bool bN, .int .i64 ((k : Int) + 1)] 54, below_drw (Go.Joins.below_alloc1 _ _)⟩
      obtain ⟨h21, hE, hB⟩ := hcut
      subst h21
      obtain ⟨NN, hNN⟩ : ∃ NN, entN a2 k = NN := ⟨_, rfl⟩
      have HNN : Hid (entN a2 k = NN) := hNN
      clear hNN rc1 rc2 rc7 lr
      go_upto_if 95 with fail
      go_cut [] (fun wx => Hid (Blk wx wr.heap.size [.bool true, .bool bW, .bool bU, .bool false, .bool false, .bool false, .bool false, .bool bN, .int .i64 NN] 54) ∧ Hid (Below wr.heap.size wr wx))
      case first =>
        have hNN := HNN.out
        unfold entN at hNN
        clear HNN
        by_cases k3 : k = 3
        · rw [if_pos k3] at hNN
          subst hNN
          have k3' : ((k : Int) == 3) = true := by simp; omega
          have e8 : wc.cell? ⟨wr.heap.size, 8, none⟩ = some (.int .i64 ((k : Int) + 1)) := hE.out.cell 8
          have e8z : wc.frozen? ⟨wr.heap.size, 8, none⟩ = false := hE.out.free 8
          have le : wr.heap.size < wc.heap.size := blk_lt hE.out
          clear k3
          go_wp2_with fail
          go_meet
          exact ⟨hE.out.set 8 _, hB.out.setCell (p := ⟨wr.heap.size, 8, none⟩) (Nat.le_refl _) _⟩
        · rw [if_neg k3] at hNN
          subst hNN
          have k3' : ((k : Int) == 3) = false := by simp; omega
          have k3'' : ¬ ((k : Int) = 3) := by omega
          clear k3
          go_wp2_with fail
          go_meet
          exact ⟨hE, hB⟩
      clear hE hB
      obtain ⟨hE, hB⟩ := hcut
      obtain ⟨v1, hv1⟩ : ∃ v1, v1 = wc := ⟨_, rfl⟩
      subst hv1
      obtain ⟨pw, hpw⟩ : ∃ b, allB rW3 k = b := ⟨_, rfl⟩
      obtain ⟨pu, hpu⟩ : ∃ b, allB rU3 k = b := ⟨_, rfl⟩
      obtain ⟨px, hpx⟩ : ∃ b, allB (fun i => !rN3 i) k = b := ⟨_, rfl⟩
      have PB : Hid (Blk v1 pB [.bool pw, .bool pu, .bool px] 38) := by rw [← hpw, ← hpu, ← hpx]; exact hd.out.p.below hB.out
      have HP : Hid (allB rW3 k = pw ∧ allB rU3 k = pu ∧ allB (fun i => !rN3 i) k = px) := ⟨hpw, hpu, hpx⟩
      clear hpw hpu hpx
      have npe : wr.heap.size ≠ pB := fun e => by have := blk_lt hd.out.p; omega
      have npe' : pB ≠ wr.heap.size := fun e => npe e.symm
      have lpb : pB < v1.heap.size := blk_lt PB.out
      have leb : wr.heap.size < v1.heap.size := blk_lt hE.out
      have pc0 : v1.cell? ⟨pB, 0, none⟩ = some (.bool pw) := Blk.cell PB.out 0
      have pcz0 : v1.frozen? ⟨pB, 0, none⟩ = false := Blk.free PB.out 0
      have pc1 : v1.cell? ⟨pB, 1, none⟩ = some (.bool pu) := Blk.cell PB.out 1
      have pcz1 : v1.frozen? ⟨pB, 1, none⟩ = false := Blk.free PB.out 1
      have pc2 : v1.cell? ⟨pB, 2, none⟩ = some (.bool px) := Blk.cell PB.out 2
      have pcz2 : v1.frozen? ⟨pB, 2, none⟩ = false := Blk.free PB.out 2
      have ec0 : v1.cell? ⟨wr.heap.size, 0, none⟩ = some (.bool true) := Blk.cell hE.out 0
      have ec1 : v1.cell? ⟨wr.heap.size, 1, none⟩ = some (.bool bW) := Blk.cell hE.out 1
      have ec2 : v1.cell? ⟨wr.heap.size, 2, none⟩ = some (.bool bU) := Blk.cell hE.out 2
      have ec3 : v1.cell? ⟨wr.heap.size, 3, none⟩ = some (.bool false) := Blk.cell hE.out 3
      have ec4 : v1.cell? ⟨wr.heap.size, 4, none⟩ = some (.bool false) := Blk.cell hE.out 4
      have ec5 : v1.cell? ⟨wr.heap.size, 5, none⟩ = some (.bool false) := Blk.cell hE.out 5
      have ec6 : v1.cell? ⟨wr.heap.size, 6, none⟩ = some (.bool false) := Blk.cell hE.out 6
      have ec7 : v1.cell? ⟨wr.heap.size, 7, none⟩ = some (.bool bN) := Blk.cell hE.out 7
      have ec8 : v1.cell? ⟨wr.heap.size, 8, none⟩ = some (.int .i64 NN) := Blk.cell hE.out 8
      go_upto_region 15 with fail
      go_cut [] (fun wx => Hid (Blk wx pB [.bool (pw && bW), .bool (pu && bU), .bool (px && !bN)] 38) ∧ Hid (Blk wx wr.heap.size [.bool true, .bool bW, .bool bU, .bool false, .bool false, .bool false, .bool false, .bool bN, .int .i64 NN] 54) ∧ Hid (v1.grownBy wx (some pB)))
      case first =>
        have S3 : Hid (∀ a b c : Value, _ ∧ _ ∧ _) := fun a b c => set3 PB.out hE.out npe a b c
        clear HP HB HNN
        cases pw <;> cases pu <;> cases px <;> (go_wp2_with fail; go_meet; exact S3.out _ _ _)
      clear PB pc0 pcz0 pc1 pcz1 pc2 pcz2 ec0 ec1 ec2 ec3 ec4 ec5 ec6 ec7 ec8 hE
      obtain ⟨hP, hE, hG⟩ := hcut
      obtain ⟨v2, hv2⟩ : ∃ v2, v2 = wc := ⟨_, rfl⟩
      subst hv2
      obtain ⟨V, hV⟩ : ∃ V, entE rW3 rU3 rN3 a2 k = V := ⟨_, rfl⟩
      have nb := entN_bd f0' f1' k hlt
      have PKk : Hid (∀ W : World, Tab W → Calls Tryd.prog 10 #[.agg #[.bool true, .bool bW, .bool bU, .bool false, .bool false, .bool false, .bool false, .bool bN, .int .i64 NN]] W fun e w' => e = .returned (.tuple #[.int .u64 V, .int .i64 0]) ∧ Below W.heap.size W w') := fun W h => by
        rw [← hV, ← HNN.out]; unfold entE; rw [HB.out.1, HB.out.2.1, HB.out.2.2]
        exact pack_ok true bW bU false false false false bN (entN a2 k) nb.1 nb.2 W h
      have P2 : Blk v2 pB [.bool (allB rW3 (k + 1)), .bool (allB rU3 (k + 1)), .bool (allB (fun i => !rN3 i) (k + 1))] 38 := by
        show Blk v2 pB [.bool (allB rW3 k && rW3 k), .bool (allB rU3 k && rU3 k), .bool (allB (fun i => !rN3 i) k && !rN3 k)] 38
        rw [HP.out.1, HP.out.2.1, HP.out.2.2, HB.out.1, HB.out.2.1, HB.out.2.2]; exact hP.out
      obtain ⟨Ak, hAk⟩ : ∃ Ak, A k = Ak := ⟨_, rfl⟩
      have ab := AB.out k hlt
      have SC : Hid (∀ v3 : World, Below v2.heap.size v2 v3 → Calls Tryd.prog 13 #[.pointer (some ⟨rb, 0, none⟩), .int .u64 ((k : Int) * 4096 + 8 * Ak), .int .i64 8, .int .u64 V] v3 fun e w' => e = .returned (.int .i64 0) ∧ DL w w' rb pB A C3 x u f rW3 rU3 rN3 a2 (k + 1)) := fun v3 h3 => by
        rw [← hV, ← hAk]; exact hd.out.store hlt ab f0' f1' MX.out hB.out hG.out P2 h3
      have lp := hd.out.lp
      have b1 := below_then hd.out.bel hB.out
      have b2 : Below w.heap.size w v2 := b1.grown hG.out b1.size (fun j ej => by have := Option.some.inj ej; omega)
      have a2k : v2.cell? ⟨w.heap.size, k, none⟩ = some (.int .i64 Ak) := by
        have e1 := hd.out.a4.below hB.out
        have e2 : Blk v2 w.heap.size [.int .i64 (A 0), .int .i64 (A 1), .int .i64 (A 2), .int .i64 (A 3)] 52 := (hG.out.block _ (blk_lt e1) (fun e => by have := Option.some.inj e; omega)).trans e1
        rw [← hAk]; exact (e2.cell k).trans (at_cell A k hlt)
      have law2 : w.heap.size < v2.heap.size := Nat.lt_of_lt_of_le (by have := blk_lt hd.out.a4; have := hB.out.size; omega) hG.out.size
      have leb2 : wr.heap.size < v2.heap.size := blk_lt hE.out
      rw [hAk] at ab
      have ab0 := ab.1
      have ab1 := ab.2
      have B2 : Hid (Below w.heap.size w v2) := b2
      clear hd hP hG hB P2 HP HB HNN hV hAk nb ab b1 b2 lp npe npe' lpb leb
      have ec0 : v2.cell? ⟨wr.heap.size, 0, none⟩ = some (.bool true) := Blk.cell hE.out 0
      have ec1 : v2.cell? ⟨wr.heap.size, 1, none⟩ = some (.bool bW) := Blk.cell hE.out 1
      have ec2 : v2.cell? ⟨wr.heap.size, 2, none⟩ = some (.bool bU) := Blk.cell hE.out 2
      have ec3 : v2.cell? ⟨wr.heap.size, 3, none⟩ = some (.bool false) := Blk.cell hE.out 3
      have ec4 : v2.cell? ⟨wr.heap.size, 4, none⟩ = some (.bool false) := Blk.cell hE.out 4
      have ec5 : v2.cell? ⟨wr.heap.size, 5, none⟩ = some (.bool false) := Blk.cell hE.out 5
      have ec6 : v2.cell? ⟨wr.heap.size, 6, none⟩ = some (.bool false) := Blk.cell hE.out 6
      have ec7 : v2.cell? ⟨wr.heap.size, 7, none⟩ = some (.bool bN) := Blk.cell hE.out 7
      have ec8 : v2.cell? ⟨wr.heap.size, 8, none⟩ = some (.int .i64 NN) := Blk.cell hE.out 8
      go_wp2_with fail
      refine (PKk.out _ (TB.out _ B2.out)).mono ?_
      rintro e v3 ⟨rfl, hb3⟩
      have SC3 : Hid _ := SC.out v3 hb3
      have a3k : v3.cell? ⟨w.heap.size, k, none⟩ = some (.int .i64 Ak) := (World.cell?_of_block (w := v2) (a := ⟨w.heap.size, k, none⟩) (hb3.block _ law2)).trans a2k
      have law3 : w.heap.size < v3.heap.size := Nat.lt_of_lt_of_le law2 hb3.size
      clear hb3 SC PKk B2 hE a2k law2 leb2 ec0 ec1 ec2 ec3 ec4 ec5 ec6 ec7 ec8
      have q1 : IntKind.u64.wrap (k : Int) = (k : Int) := by rw [IntKind.wrap_u64]; omega
      have q2 : IntKind.u64.wrap ((k : Int) * 4096) = (k : Int) * 4096 := by rw [IntKind.wrap_u64]; omega
      have q3 : IntKind.i64.wrap (8 * Ak) = 8 * Ak := by rw [IntKind.wrap_i64]; omega
      have q3' : wrap64 (8 * Ak) = 8 * Ak := by simp only [wrap64]; omega
      have q4 : IntKind.u64.wrap (8 * Ak) = 8 * Ak := by rw [IntKind.wrap_u64]; omega
      have q5 : IntKind.u64.wrap ((k : Int) * 4096 + 8 * Ak) = (k : Int) * 4096 + 8 * Ak := by rw [IntKind.wrap_u64]; omega
      go_wp2_with fail
      refine Calls.mono SC3.out ?_
      rintro e v4 ⟨rfl, h4⟩
      have D4 : Hid (DL w v4 rb pB A C3 x u f rW3 rU3 rN3 a2 (k + 1)) := h4
      clear h4 SC3 a3k
      go_wp2_with fail
      go_roundw
      case rel => exact ⟨k + 1, by omega, by go_num, D4⟩
      case measure => simp [intOf]; omega

  have D : Hid (DL w wc rb pB A C3 x u f rW3 rU3 rN3 a2 4) := hcut
  clear L0 hcut
  obtain ⟨K, S, n, r5, hn, hs, hK, hKp⟩ := D.out.ram
  obtain ⟨M4, hM4⟩ : ∃ M4, ME A (entE rW3 rU3 rN3 a2) 4 = M4 := ⟨_, rfl⟩
  obtain ⟨r1, hr1⟩ : ∃ r1, walkW H4 M4 0 addr x u f = r1 := ⟨_, rfl⟩
  obtain ⟨pw, hpw⟩ : ∃ b, allB rW3 4 = b := ⟨_, rfl⟩
  obtain ⟨pu, hpu⟩ : ∃ b, allB rU3 4 = b := ⟨_, rfl⟩
  obtain ⟨px, hpx⟩ : ∃ b, allB (fun i => !rN3 i) 4 = b := ⟨_, rfl⟩
  obtain ⟨⟨ce, ad0, ad1⟩, pl0, pl1, pl2, pl3⟩ := AD.out
  have F1 := tab_first A rW3 rU3 rN3 a2 addr x u f AB.out f0' f1' ce pl0 pl1 pl2 pl3
  have F2 := fun co ne => tab_second A rW3 rU3 rN3 a2 addr a5 x u f AB.out f0' f1' ce pl0 pl1 pl2 pl3 hot.1 hot.2 co ne
  rw [hM4] at F1 F2
  rw [hr1] at F1 F2
  rw [hpw, hpu, hpx] at F1
  have C1 : Calls Tryd.prog 7 #[.pointer (some ⟨rb, 0, none⟩), .int .i64 0, .int .u64 addr, .agg #[.bool x, .bool u, .bool f]] wc fun e w' => e = .returned r1.val ∧ RamX w' K rb H4 4 r1.M (n + 8) ∧ Kept K wc w' ∧ Tab w' := by
    rw [← hr1, ← hM4]
    exact walk_any ⟨r5.ram, S, r5.ok, r5.sub⟩ (TB.out _ D.out.bel) (hK 0 (by omega)) (by have := MX.out; omega) h4_bd 0 addr ad0 ad1 x u f
  have P4 : Hid (Blk wc pB [.bool pw, .bool pu, .bool px] 38) := by rw [← hpw, ← hpu, ← hpx]; exact D.out.p
  have C4 : Hid (Blk wc (w.heap.size + 1 + 1) [.bool x, .bool u, .bool f] 34) := D.out.ac
  have B4 : Hid (Below w.heap.size w wc) := D.out.bel
  have lp : Hid ((w.heap.size + 1 + 1) < pB) := D.out.lp
  have lcw : (w.heap.size + 1 + 1) < wc.heap.size := blk_lt C4.out
  have HK : Hid ((∀ j, j ≤ (w.heap.size + 1 + 1) → K j) ∧ K pB) := ⟨hK, hKp⟩
  clear hr1 hM4 hpw hpu hpx ce ad0 ad1 pl0 pl1 pl2 pl3 AD AB r5 hs hK hKp D
  obtain ⟨er, fa, fc, fr, qw, qu, qx, gl, la, di, M1⟩ := r1
  simp only at F1 F2
  have F1' : Hid _ := F1
  have F2' : Hid (∀ (co : ext a5 = a5) (ne : a5 / 4096 ≠ addr / 4096), (walkW H4 M1 0 a5 x u f).er = 9 ∧ (walkW H4 M1 0 a5 x u f).fa = a5 ∧ (walkW H4 M1 0 a5 x u f).fc = codeV x u f) := F2
  have C1' : Hid (Calls Tryd.prog 7 #[.pointer (some ⟨rb, 0, none⟩), .int .i64 0, .int .u64 addr, .agg #[.bool x, .bool u, .bool f]] wc fun e w' => e = .returned (.tuple #[.agg #[.int .i64 fr, .bool qw, .bool qu, .bool qx, .bool gl, .bool la, .bool di], .agg #[.int .u64 fa, .int .i64 fc], .int .i64 er]) ∧ RamX w' K rb H4 4 M1 (n + 8) ∧ Kept K wc w' ∧ Tab w') := C1
  clear F1 F2 C1
  have cc0 : wc.cell? ⟨(w.heap.size + 1 + 1), 0, none⟩ = some (.bool x) := Blk.cell C4.out 0
  have cc1 : wc.cell? ⟨(w.heap.size + 1 + 1), 1, none⟩ = some (.bool u) := Blk.cell C4.out 1
  have cc2 : wc.cell? ⟨(w.heap.size + 1 + 1), 2, none⟩ = some (.bool f) := Blk.cell C4.out 2
  go_wp2_with fail
  refine C1'.out.mono ?_
  rintro e u5 ⟨rfl, hX, hk5, _⟩
  obtain ⟨x1, S5, x2, x3⟩ := hX
  have R6 : Hid (Ram5 u5 K S5 rb H4 4 M1 (n + 8)) := ⟨x1, x2, x3⟩
  have P5 : Hid (Blk u5 pB [.bool pw, .bool pu, .bool px] 38) := P4.out.kept hk5 HK.out.2
  have C5 : Hid (Blk u5 (w.heap.size + 1 + 1) [.bool x, .bool u, .bool f] 34) := C4.out.kept hk5 (HK.out.1 _ (Nat.le_refl _))
  have B5 : Hid (Below w.heap.size w u5) := B4.out.trans (hk5.below (fun j hj => HK.out.1 j (by omega)))
  have l5w : w.heap.size ≤ u5.heap.size := B5.out.size
  clear x1 x2 x3 hk5 C1' P4 C4 B4 cc0 cc1 cc2 lcw
  have lc5 : (w.heap.size + 1 + 1) < u5.heap.size := blk_lt C5.out
  have lp5 : pB < u5.heap.size := blk_lt P5.out
  have MYC := may_any pw pu px x u f
  obtain ⟨my, hmy⟩ : ∃ b, mayV pw pu px x u f = b := ⟨_, rfl⟩
  rw [hmy] at MYC F1'
  have MY' : Hid (∀ W : World, Calls Tryd.prog 14 #[.agg #[.bool pw, .bool pu, .bool px], .agg #[.bool x, .bool u, .bool f]] W fun e w' => e = .returned (.bool my) ∧ Below W.heap.size W w') := MYC
  clear MYC hmy
  go_upto_region 20 with fail
  have mk := made_2 u5 [.int .i64 fr, .bool qw, .bool qu, .bool qx, .bool gl, .bool la, .bool di] [.int .u64 fa, .int .i64 fc] 40 42
  have F5 : Hid (Blk ((u5.alloc (.cells #[.int .i64 fr, .bool qw, .bool qu, .bool qx, .bool gl, .bool la, .bool di] 40)).alloc (.cells #[.int .u64 fa, .int .i64 fc] 42)) u5.heap.size [.int .i64 fr, .bool qw, .bool qu, .bool qx, .bool gl, .bool la, .bool di] 40) := mk.1
  have T5 : Hid (Blk ((u5.alloc (.cells #[.int .i64 fr, .bool qw, .bool qu, .bool qx, .bool gl, .bool la, .bool di] 40)).alloc (.cells #[.int .u64 fa, .int .i64 fc] 42)) (u5.heap.size + 1) [.int .u64 fa, .int .i64 fc] 42) := mk.2
  have P5' : Hid (Blk ((u5.alloc (.cells #[.int .i64 fr, .bool qw, .bool qu, .bool qx, .bool gl, .bool la, .bool di] 40)).alloc (.cells #[.int .u64 fa, .int .i64 fc] 42)) pB [.bool pw, .bool pu, .bool px] 38) := P5.out.below (Go.Joins.below_alloc2 _ _ _)
  have C5' : Hid (Blk ((u5.alloc (.cells #[.int .i64 fr, .bool qw, .bool qu, .bool qx, .bool gl, .bool la, .bool di] 40)).alloc (.cells #[.int .u64 fa, .int .i64 fc] 42)) (w.heap.size + 1 + 1) [.bool x, .bool u, .bool f] 34) := C5.out.below (Go.Joins.below_alloc2 _ _ _)
  have B5' : Hid (Below w.heap.size w ((u5.alloc (.cells #[.int .i64 fr, .bool qw, .bool qu, .bool qx, .bool gl, .bool la, .bool di] 40)).alloc (.cells #[.int .u64 fa, .int .i64 fc] 42))) := below_new2 B5.out _ _
  have R7' : Hid (∃ K2 : Nat → Prop, Ram5 ((u5.alloc (.cells #[.int .i64 fr, .bool qw, .bool qu, .bool qx, .bool gl, .bool la, .bool di] 40)).alloc (.cells #[.int .u64 fa, .int .i64 fc] 42)) K2 S5 rb H4 4 M1 (n + 8) ∧ (∀ j, j ≤ (w.heap.size + 1 + 1) → K2 j) ∧ K2 (u5.heap.size + 1)) := by
    refine ⟨_, (R6.out.add (.cells #[.int .i64 fr, .bool qw, .bool qu, .bool qx, .bool gl, .bool la, .bool di] 40)).add (.cells #[.int .u64 fa, .int .i64 fc] 42), fun j hj => Or.inl (Or.inl (HK.out.1 j hj)), Or.inr (by rw [World.size_alloc])⟩
  clear mk P5 C5 B5 R6 HK lc5 lp5
  generalize ((u5.alloc (.cells #[.int .i64 fr, .bool qw, .bool qu, .bool qx, .bool gl, .bool la, .bool di] 40)).alloc (.cells #[.int .u64 fa, .int .i64 fc] 42)) = v6 at F5 T5 P5' C5' B5' R7' ⊢
  have lc5 : (w.heap.size + 1 + 1) < v6.heap.size := blk_lt C5'.out
  have lp5 : pB < v6.heap.size := blk_lt P5'.out
  have cc0 : v6.cell? ⟨(w.heap.size + 1 + 1), 0, none⟩ = some (.bool x) := Blk.cell C5'.out 0
  have cc1 : v6.cell? ⟨(w.heap.size + 1 + 1), 1, none⟩ = some (.bool u) := Blk.cell C5'.out 1
  have cc2 : v6.cell? ⟨(w.heap.size + 1 + 1), 2, none⟩ = some (.bool f) := Blk.cell C5'.out 2
  have pc0 : v6.cell? ⟨pB, 0, none⟩ = some (.bool pw) := Blk.cell P5'.out 0
  have pc1 : v6.cell? ⟨pB, 1, none⟩ = some (.bool pu) := Blk.cell P5'.out 1
  have pc2 : v6.cell? ⟨pB, 2, none⟩ = some (.bool px) := Blk.cell P5'.out 2
  go_wp2_with fail
  refine (MY'.out _).mono ?_
  rintro e u6 ⟨rfl, hb6⟩
  have F6 : Hid (Blk u6 u5.heap.size [.int .i64 fr, .bool qw, .bool qu, .bool qx, .bool gl, .bool la, .bool di] 40) := F5.out.below hb6
  have T6 : Hid (Blk u6 (u5.heap.size + 1) [.int .u64 fa, .int .i64 fc] 42) := T5.out.below hb6
  have P6 : Hid (Blk u6 pB [.bool pw, .bool pu, .bool px] 38) := P5'.out.below hb6
  have C6 : Hid (Blk u6 (w.heap.size + 1 + 1) [.bool x, .bool u, .bool f] 34) := C5'.out.below hb6
  have B6 : Hid (Below w.heap.size w u6) := below_then B5'.out hb6
  have R7 : Hid (∃ K2 : Nat → Prop, Ram5 u6 K2 S5 rb H4 4 M1 (n + 8) ∧ (∀ j, j ≤ (w.heap.size + 1 + 1) → K2 j) ∧ K2 (u5.heap.size + 1)) := by
    obtain ⟨K2, a1, a2', a3⟩ := R7'.out
    exact ⟨K2, a1.grow (below_g0 hb6), a2', a3⟩
  clear hb6 F5 T5 P5' C5' B5' R7' MY' cc0 cc1 cc2 pc0 pc1 pc2 lc5 lp5
  have lf6 : (u5.heap.size + 1) < u6.heap.size := blk_lt T6.out
  have lc6 : (w.heap.size + 1 + 1) < u6.heap.size := blk_lt C6.out
  have lp6 : pB < u6.heap.size := blk_lt P6.out
  cases my
  · obtain ⟨e1, e2, e3'⟩ := F1'.out.2 rfl
    subst e1 e2
    have b1 : bits .and .i64 fc 1 = 1 := by rw [e3']; exact code_and1 x u f
    have b2 : (fa == fa) = true := by simp
    clear e3' F1' F2' R7
    have tc0 : u6.cell? ⟨(u5.heap.size + 1), 0, none⟩ = some (.int .u64 fa) := Blk.cell T6.out 0
    have tc1 : u6.cell? ⟨(u5.heap.size + 1), 1, none⟩ = some (.int .i64 fc) := Blk.cell T6.out 1
    go_wp2_with fail
    go_ret
    exact ⟨rfl, B6.out⟩
  obtain ⟨e1, e2, e3', e4, e5, e6⟩ := F1'.out.1 rfl
  subst e1 e2 e3' e4 e5 e6
  have NP : ∀ W : World, (binOp .neq 38 (.agg #[.bool qw, .bool qu, .bool qx]) (.agg #[.bool qw, .bool qu, .bool qx])).run Tryd.prog W = .ok (.bool false) W := fun W => (nePerm qw qu qx qw qu qx W).trans (by simp)
  have na : (fr != fr) = false := by simp
  have fk0 : u6.cell? ⟨u5.heap.size, 0, none⟩ = some (.int .i64 fr) := Blk.cell F6.out 0
  have fk1 : u6.cell? ⟨u5.heap.size, 1, none⟩ = some (.bool qw) := Blk.cell F6.out 1
  have fk2 : u6.cell? ⟨u5.heap.size, 2, none⟩ = some (.bool qu) := Blk.cell F6.out 2
  have fk3 : u6.cell? ⟨u5.heap.size, 3, none⟩ = some (.bool qx) := Blk.cell F6.out 3
  have fk4 : u6.cell? ⟨u5.heap.size, 4, none⟩ = some (.bool gl) := Blk.cell F6.out 4
  have fk5 : u6.cell? ⟨u5.heap.size, 5, none⟩ = some (.bool false) := Blk.cell F6.out 5
  have fk6 : u6.cell? ⟨u5.heap.size, 6, none⟩ = some (.bool di) := Blk.cell F6.out 6
  have pc0 : u6.cell? ⟨pB, 0, none⟩ = some (.bool qw) := Blk.cell P6.out 0
  have pc1 : u6.cell? ⟨pB, 1, none⟩ = some (.bool qu) := Blk.cell P6.out 1
  have pc2 : u6.cell? ⟨pB, 2, none⟩ = some (.bool qx) := Blk.cell P6.out 2
  by_cases sp : a5 / 4096 = addr / 4096
  · have sp' : (a5 / 4096 == addr / 4096) = true := by simp [sp]
    clear sp
    go_wp2_with fail
    go_ret
    exact ⟨rfl, B6.out⟩
  have sp' : (a5 / 4096 == addr / 4096) = false := by simp [sp]
  obtain ⟨cn, hcn⟩ : ∃ b, (ext a5 == a5) = b := ⟨_, rfl⟩
  have CC : Hid (∀ W : World, Calls Tryd.prog 15 #[.int .u64 a5] W fun e w' => e = .returned (.bool cn) ∧ w' = W) := fun W => by rw [← hcn]; exact canonical_any a5 hot.1 hot.2 W
  have HCN : Hid ((ext a5 == a5) = cn) := hcn
  clear hcn
  go_wp2_with fail
  refine (CC.out _).mono ?_
  rintro e u6' ⟨rfl, rfl⟩
  cases cn
  · go_wp2_with fail
    go_ret
    exact ⟨rfl, B6.out⟩
  obtain ⟨K2, r8, hK2, hKt⟩ := R7.out
  have co : ext a5 = a5 := by simpa using HCN.out
  obtain ⟨g1, g2, g3⟩ := F2'.out co sp
  obtain ⟨r2, hr2⟩ : ∃ r2, walkW H4 M1 0 a5 x u f = r2 := ⟨_, rfl⟩
  have C2 : Calls Tryd.prog 7 #[.pointer (some ⟨rb, 0, none⟩), .int .i64 0, .int .u64 a5, .agg #[.bool x, .bool u, .bool f]] u6' fun e w' => e = .returned r2.val ∧ RamX w' K2 rb H4 4 r2.M (n + 8 + 8) ∧ Kept K2 u6' w' ∧ Tab w' := by
    rw [← hr2]
    exact walk_any ⟨r8.ram, S5, r8.ok, r8.sub⟩ (TB.out _ B6.out) (hK2 0 (by omega)) (by have := MX.out; omega) h4_bd 0 a5 hot.1 hot.2 x u f
  rw [hr2] at g1 g2 g3
  clear hr2
  obtain ⟨er2, fa2, fc2, fr2, qw2, qu2, qx2, gl2, la2, di2, M2⟩ := r2
  simp only at g1 g2 g3
  subst g1
  have b1 : bits .and .i64 fc2 1 = 0 := by rw [g3]; exact code_and0 x u f
  have b2 : (fa2 == a5) = true := by simp [g2]
  have C2' : Hid (Calls Tryd.prog 7 #[.pointer (some ⟨rb, 0, none⟩), .int .i64 0, .int .u64 a5, .agg #[.bool x, .bool u, .bool f]] u6' fun e w' => e = .returned (.tuple #[.agg #[.int .i64 fr2, .bool qw2, .bool qu2, .bool qx2, .bool gl2, .bool la2, .bool di2], .agg #[.int .u64 fa2, .int .i64 fc2], .int .i64 9]) ∧ RamX w' K2 rb H4 4 M2 (n + 8 + 8) ∧ Kept K2 u6' w' ∧ Tab w') := C2
  have HK2 : Hid ((∀ j, j ≤ (w.heap.size + 1 + 1) → K2 j) ∧ K2 (u5.heap.size + 1)) := ⟨hK2, hKt⟩
  clear C2 g2 g3 co r8 hK2 hKt R7 F2' F1' CC HCN sp sp' fk0 fk1 fk2 fk3 fk4 fk5 fk6 pc0 pc1 pc2
  have cc0 : u6'.cell? ⟨(w.heap.size + 1 + 1), 0, none⟩ = some (.bool x) := Blk.cell C6.out 0
  have cc1 : u6'.cell? ⟨(w.heap.size + 1 + 1), 1, none⟩ = some (.bool u) := Blk.cell C6.out 1
  have cc2 : u6'.cell? ⟨(w.heap.size + 1 + 1), 2, none⟩ = some (.bool f) := Blk.cell C6.out 2
  go_wp2_with fail
  refine C2'.out.mono ?_
  rintro e u7 ⟨rfl, _, hk7, _⟩
  have T7 : Hid (Blk u7 (u5.heap.size + 1) [.int .u64 fa, .int .i64 fc] 42) := T6.out.kept hk7 HK2.out.2
  have B7 : Hid (Below w.heap.size w u7) := B6.out.trans (hk7.below (fun j hj => HK2.out.1 j (by omega)))
  have lt7 : (u5.heap.size + 1) < u7.heap.size := blk_lt T7.out
  have l57 : w.heap.size ≤ u5.heap.size + 1 := by omega
  clear hk7 C2' T6 B6 C6 cc0 cc1 cc2
  have tc0 : u7.cell? ⟨(u5.heap.size + 1), 0, none⟩ = some (.int .u64 fa) := Blk.cell T7.out 0
  have tcz0 : u7.frozen? ⟨(u5.heap.size + 1), 0, none⟩ = false := Blk.free T7.out 0
  have tc1 : u7.cell? ⟨(u5.heap.size + 1), 1, none⟩ = some (.int .i64 fc) := Blk.cell T7.out 1
  have tcz1 : u7.frozen? ⟨(u5.heap.size + 1), 1, none⟩ = false := Blk.free T7.out 1
  go_wp2_with fail
  go_ret
  exact ⟨rfl, below_new ((B7.out.setCell (p := ⟨u5.heap.size + 1, 0, none⟩) l57 _).setCell (p := ⟨u5.heap.size + 1, 1, none⟩) l57 _) _⟩

set_option maxRecDepth 100000 in
theorem lifted (os : Os) (started : os.Started) (H : Type) (enc : TypeId × Value → H) :
    ReturnsInHanded {} Tryd.checked os 4 .any (fun w args => (Rows.demesneTablesSpec.pre enc Tryd.prog Tryd.f4 [] false w args ∧ laidMetH Tryd.prog laidL w) ∧ sizedMet enc Tryd.prog Tryd.f4 (OpenSpec.ofChange Rows.demesneTablesSpec) false w args)
      (Rows.demesneTablesSpec.post enc Tryd.prog Tryd.f4 false true false false) := by
  refine returnsInHanded_of_change_and (C := Tryd.checked) (X := fun w _ => laidMetH Tryd.prog laidL w) (fun _ _ _ hh h => h.of_heap hh) own started (by kernel_rfl) Tryd.func4
    (ChangeSpec.witness_shaped (enc := enc) (C := Tryd.checked) (os := os) (X := fun w _ => laidMetH Tryd.prog laidL w) false (World.doorLaid Tryd.prog 400 os) #[.agg #[.int .i64 0, .int .i64 0, .int .i64 0, .int .i64 0], .int .i64 0, .int .i64 0, .agg #[.bool false, .bool false, .bool false, .bool false, .bool false, .bool false, .bool false, .bool false, .int .i64 0, .bool false, .bool false, .bool false, .bool false, .bool false, .bool false, .bool false, .bool false, .int .i64 0, .bool false, .bool false, .bool false, .bool false, .bool false, .bool false, .bool false, .bool false, .int .i64 0, .bool false, .bool false, .bool false, .bool false, .bool false, .bool false, .bool false, .bool false, .int .i64 0], .agg #[.bool false, .bool false, .bool false], .int .u64 0] 8 rfl (World.shaped_of_RefB (by kernel_rfl) (by kernel_rfl)) (by kernel_rfl) (by kernel_rfl) (by kernel_rfl) (door_met os _)) ?_
  intro W base args ds gs before hval0 hW _ _ hL _
  have hval : ∀ (j : Nat) t v, Tryd.f4.params[j]? = some t → args[j]? = some v → Value.okWide Tryd.prog W .any base t v := hval0
  have hW' := hW
  obtain ⟨p, q, hA0, hV, hbef, hfz, hnd⟩ := hW
  have hA : DataW.TrodAll enc Tryd.prog W 0 (fun _ => true) true Tryd.f4.params.toList args.toList ds p := hA0
  have hAk := hA
  have hlt : ∀ x ∈ p, x.block < W.heap.size := fun x hx => hW'.lt x (by rw [hbef]; exact List.mem_append_left _ hx)
  rw [Tryd.params4] at hA hval
  obtain ⟨v0, vs0, d0, ds0, p0, q0, hargs, rfl, hp0, h0, r0⟩ := trodAll_cons hA
  obtain ⟨v1, vs1, d1, ds1, p1, q1, rfl, rfl, hp1, h1, r1⟩ := trodAll_cons r0
  obtain ⟨v2, vs2, d2, ds2, p2, q2, rfl, rfl, hp2, h2, r2⟩ := trodAll_cons r1
  obtain ⟨v3, vs3, d3, ds3, p3, q3, rfl, rfl, hp3, h3, r3⟩ := trodAll_cons r2
  obtain ⟨v4, vs4, d4, ds4, p4, q4, rfl, rfl, hp4, h4, r4⟩ := trodAll_cons r3
  obtain ⟨v5, vs5, d5, ds5, p5, q5, rfl, rfl, hp5, h5, r5⟩ := trodAll_cons r4
  obtain ⟨rfl, rfl, hpz⟩ := trodAll_nil r5
  obtain rfl : args = #[v0, v1, v2, v3, v4, v5] := by cases args; simp_all
  obtain ⟨rfl, rfl⟩ := trodVars_none hV
  obtain ⟨a0a, a0b, a0c, a0d, rfl, w0a, w0b, w0c, w0d⟩ := open_at4 (hval 0 52 v0 rfl rfl) h0
  obtain ⟨a1, rfl, _, _, w1⟩ := open_int Tryd.underlying3 (hval 1 3 v1 rfl rfl) h1
  obtain ⟨a2, rfl, _, _, w2⟩ := open_int Tryd.underlying3 (hval 2 3 v2 rfl rfl) h2
  obtain ⟨C3, rW3, rU3, rN3, rfl, e3⟩ := open_ent4 (hval 3 55 v3 rfl rfl) h3
  obtain ⟨s4, rfl, _⟩ := open_ac3 (hval 4 34 v4 rfl rfl) h4
  obtain ⟨a5, rfl, _, _, w5⟩ := open_int Tryd.underlying32 (hval 5 32 v5 rfl rfl) h5
  clear hA0 hval0
  refine (walk a0a a0b a0c a0d w0a w0b w0c w0d a1 w1 a2 w2 C3 rW3 rU3 rN3 e3 s4 a5 w5 W (of_laid hL) ).mono fun e W' ⟨he, hg⟩ => ?_
  subst he
  exact ⟨_, rfl, ⟨_, _, _, [], p, [], hW', (trodAll_cons_mk (shut_bool Tryd.underlying4 _) trodAll_mk0), args_stay laidOut hg (by kernel_rfl) hAk hlt, rfl, hg.frame _, fun h => by cases h⟩⟩

theorem over : Rows.demesneTablesRow.holds Tryd.pinned (OpenSpec.ofChange Rows.demesneTablesSpec) :=
  OpenClaim.holds_of_wide 4 Tryd.f4 rfl rfl rfl rfl rfl rfl rfl ⟨rfl, rfl, rfl, rfl, rfl⟩ rfl rfl rfl rfl rfl (by kernel_rfl) Tryd.func4 (by kernel_rfl)
    (of_decide_eq_true (by kernel_rfl)) (by unfold Func.isWrapper; first | (rw [if_pos (by decide +kernel)]; kernel_rfl) | (rw [if_neg (by decide +kernel)]; exact ⟨rfl, rfl⟩))
    (fun os started H enc _ => lifted os started H enc)

theorem proved : Rows.DemesneTablesCardSaid :=
  Claim7.holds_tied_plain_at .later [] [.data] true (true, "8ff7d9be87bf16557d1e3a5cb4e9ef98d17157286c65b8d8089154d80088c6c8") true
    over (fun _ h => by cases h) (by kernel_rfl) (fun _ h => by cases h) demesneTables_row_tie rfl ⟨rfl, rfl⟩ (by kernel_rfl) rfl
    (fun f fn hf hfn => by
      obtain rfl : f = 4 := Option.some.inj ((show Tryd.prog.funcNamed "demesne/demesnetop.DemesneTables" = some 4 by kernel_rfl).symm.trans hf) |>.symm
      obtain rfl : fn = Tryd.f4 := (Option.some.inj (Tryd.func4.symm.trans hfn)).symm
      exact ⟨by kernel_rfl, fun j t ht => by
        rw [Tryd.params4] at ht
        have hm : t ∈ [52, 3, 3, 55, 34, 32] := by simpa using Array.mem_of_getElem? ht
        have hall : ([52, 3, 3, 55, 34, 32].all fun u => !Tryd.prog.wantsStandIn u) = true := by kernel_rfl
        exact (show Tryd.prog.wantsStandIn t = false by simpa using List.all_eq_true.1 hall t hm)⟩)
    (by kernel_rfl)
#print axioms proved
end Go.Proofs.YtaebihgegiddnaaDoor.demesneTables
