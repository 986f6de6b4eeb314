/- Boot maps: the entries one by one. -/
import Derived.Test.YtpfcpmhpekidkaaO4
import Derived.RangeFuncNested
import Derived.RangeFuncBound
import Derived.RangeFuncCalls
import Derived.RangeFuncLeaves
import Derived.Shelf.Abstract
import Derived.Shelf.RegionOpen
import Derived.OwnWalkIn
import Derived.TacticsInMore
import Derived.LoopNIn
import Derived.LoopIn
namespace Go.Proofs.Ytpfcpmhpekidkaa.Bm
open Go.ChangeShapes Go.WideShapes Go.ChangeAt Go.RowKit Go.Maps Go.Shelf
set_option linter.unusedSimpArgs false
set_option linter.unusedVariables false
set_option maxRecDepth 8000
attribute [local go_sem] Oper.semAt_some

/-- some blocks stay -/
structure Kg (S : Nat → Prop) (W W' : World) : Prop where
  size : W.heap.size ≤ W'.heap.size
  block : ∀ j, S j → j < W.heap.size → W'.heap[j]? = W.heap[j]?
theorem Kg.refl (S : Nat → Prop) (W : World) : Kg S W W := ⟨Nat.le_refl _, fun _ _ _ => rfl⟩
theorem Kg.trans {S : Nat → Prop} {A B C : World} (h : Kg S A B) (k : Kg S B C) : Kg S A C := ⟨Nat.le_trans h.size k.size, fun j hj hl => (k.block j hj (Nat.lt_of_lt_of_le hl h.size)).trans (h.block j hj hl)⟩
theorem Kg.below {S : Nat → Prop} {A B : World} (h : Below A.heap.size A B) : Kg S A B := ⟨h.size, fun j _ hl => h.block j hl⟩
theorem grown_below {A B : World} (h : Below A.heap.size A B) : A.grownBy B none := ⟨h.os, h.tape, h.output, h.size, fun j hj _ => h.block j hj⟩
/-- the areas of m times 20 bytes -/
def areasL (B : Nat → Int) (m : Nat) : List Ar := (List.range m).map (fun j => arB B (j * 20))
theorem areas_succ (B : Nat → Int) (k : Nat) : areasL B (k + 1) = areasL B k ++ [arB B (k * 20)] := by simp [areasL, List.range_succ]
theorem areas_len (B : Nat → Int) (k : Nat) : (areasL B k).length = k := by simp [areasL]
def encA (x : Ar) : Array Value := #[.agg #[.int .u64 x.f, .int .u64 x.l, .int .u32 x.k]]

set_option maxRecDepth 100000 in
set_option maxHeartbeats 2000000 in
theorem entries1_in (nn : Nat) (hn : 1 ≤ nn) (l Bs g o m c : Nat) (B : Nat → Int) (hB : ∀ i, 0 ≤ B i ∧ B i < 256) (hm : m ≤ 64) (hc : m * 20 ≤ c) (J Jx : List Ar → World → Prop) (W : World) (hJ : AbidesFrom W.heap.size J)
    (hY : ∀ pre x W1, J pre W1 → pre.length < m → YieldAt Fence.wide (nn - 1) Try.prog l (encA x) W1 fun e W' =>
      (e = .returned (.bool true) ∧ J (pre ++ [x]) W' ∧ Kg (fun j => j = g ∨ j = Bs) W1 W') ∨ (e = .returned (.bool false) ∧ Jx (pre ++ [x]) W'))
    (hBs : W.cell? ⟨Bs, 0, none⟩ = some (.slice (some ⟨g, o, none⟩) (m * 20) c)) (lb : Bs < W.heap.size) (lg : g < W.heap.size) (hcs : ∀ i, i < m * 20 → W.cell? ⟨g, o + i, none⟩ = some (.int .u8 (B i))) (h0 : J [] W) :
    CallsIn Fence.wide nn Try.prog 52 #[.func (.yield l) #[] #[], .pointer (some ⟨Bs, 0, none⟩)] W fun e W' => (∃ v, e = .returned v) ∧
      ((∃ ys, ys = areasL B m ∧ J ys W') ∨ (∃ pre, (∃ k, k ≤ m ∧ pre = areasL B k) ∧ Jx pre W')) := by
  have HB : Hid (∀ i, 0 ≤ B i ∧ B i < 256) := hB
  have HC : Hid (∀ i, i < m * 20 → W.cell? ⟨g, o + i, none⟩ = some (.int .u8 (B i))) := hcs
  have HJ : Hid (AbidesFrom W.heap.size J) := hJ
  have HY : Hid (∀ pre x W1, J pre W1 → pre.length < m → YieldAt Fence.wide (nn - 1) Try.prog l (encA x) W1 fun e W' =>
      (e = .returned (.bool true) ∧ J (pre ++ [x]) W' ∧ Kg (fun j => j = g ∨ j = Bs) W1 W') ∨ (e = .returned (.bool false) ∧ Jx (pre ++ [x]) W')) := hY
  obtain ⟨n, en⟩ : ∃ n, m * 20 = n := ⟨_, rfl⟩
  have HN : Hid (m * 20 = n) := en
  have n9 : n ≤ 1280 := by omega
  rw [en] at hBs hc
  clear hB hcs hJ hY
  refine callsIn_of_wp Try.func52 rfl trivial ?_ rfl
  simp only [Try.ntmps52, List.size_toArray, List.length_cons, List.length_nil, Nat.reduceAdd, Nat.reduceSub, Array.replicate_succ, Array.replicate_zero, List.push_toArray, List.append_toArray, List.nil_append, List.cons_append]
  gi_wp2
  gi_loopw [3] (fun i wr => ∃ k t : Nat, k ≤ m ∧ i = .int .i64 t ∧ Hid (t = k * 20) ∧ Hid (J (areasL B k) wr) ∧ Hid (Kg (fun j => j = g ∨ j = Bs) W wr)) (fun i _ => n - (intOf i).toNat)
  case atStart => exact ⟨0, 0, Nat.zero_le _, rfl, rfl, h0, Kg.refl _ _⟩
  case round =>
    obtain ⟨k, t, hk, rfl, ht, hJs, hK⟩ := hrel
    have cB : wr.cell? ⟨Bs, 0, none⟩ = some (.slice (some ⟨g, o, none⟩) n c) := (World.cell?_of_block (hK.out.block Bs (Or.inr rfl) lb)).trans hBs
    by_cases hlt : k < m
    · have tn : t + 20 ≤ n := by have := ht.out; have := HN.out; omega
      have d1 : decide ((t : Int) + 20 ≤ (n : Int)) = true := decide_eq_true (by omega)
      have ct : ¬ c = t := by omega
      have EC0 := entry_any g (o + t) (c - t) t B HB.out (by omega) wr (fun i hi => by
        rw [Nat.add_assoc]
        exact (World.cell?_of_block (hK.out.block g (Or.inl rfl) lg)).trans (HC.out (t + i) (by have := HN.out; omega))) (Nat.lt_of_lt_of_le lg hK.out.size)
      have NX : areasL B (k + 1) = areasL B k ++ [arB B t] := by rw [areas_succ, ← ht.out]
      obtain ⟨⟨X1, X2, X3⟩, hX⟩ : ∃ X, arB B t = X := ⟨_, rfl⟩
      rw [hX] at EC0 NX
      have EC : Hid (CallsIn Fence.wide (nn - 1) Try.prog 53 #[.slice (some ⟨g, o + t, none⟩) 20 (c - t)] wr fun e w' => e = .returned (.agg #[.int .u64 X1, .int .u64 X2, .int .u32 X3]) ∧ Below wr.heap.size wr w') := (callsIn_wide (n := nn - 1)).2 EC0
      have HNX : Hid (areasL B (k + 1) = areasL B k ++ [⟨X1, X2, X3⟩]) := NX
      clear EC0 NX hX
      gi_wp2
      refine ⟨trivial, CallsIn.mono EC.out ?_⟩
      rintro e w3 ⟨rfl, hb⟩
      have hJ3 : J (areasL B k) w3 := HJ.out _ wr w3 none hJs.out (grown_below hb) (fun r e => by cases e)
      have hK3 : Kg (fun j => j = g ∨ j = Bs) W w3 := hK.out.trans (Kg.below hb)
      obtain ⟨fn, tmps, assign, body, hy, hR⟩ := HY.out _ ⟨X1, X2, X3⟩ w3 hJ3 (by rw [areas_len]; exact hlt)
      dsimp only [encA] at hy
      have HR : Hid _ := hR
      have HK3 : Hid _ := hK3
      clear hR hK3 hJ3 hb EC hJs hK cB
      gi_wp2
      refine RoundIn.mono HR.out ?_
      rintro e W3 (⟨rfl, hJ3, hk3⟩ | ⟨rfl, hJx3⟩)
      · have J4 : Hid (J (areasL B (k + 1)) W3) := by rw [HNX.out]; exact hJ3
        have K4 : Hid (Kg (fun j => j = g ∨ j = Bs) W W3) := HK3.out.trans hk3
        clear hJ3 hk3 hy
        gi_wp2
        go_roundw
        case rel => exact ⟨k + 1, t + 20, by omega, by simp, by have := ht.out; show _ = _; omega, J4, K4⟩
        case measure => simp [intOf]; omega
      · gi_wp2
        refine bodyPost_ret (results_none rfl _ _ _) rfl ?_
        exact ⟨⟨_, rfl⟩, .inr ⟨_, ⟨k + 1, by omega, HNX.out.symm⟩, hJx3⟩⟩
    · obtain rfl : k = m := by omega
      have t9 : t ≤ 1280 := by have := ht.out; have := HN.out; omega
      have tn : ¬ ((t : Int) + 20 ≤ (n : Int)) := by have := ht.out; have := HN.out; omega
      have d1 : decide ((t : Int) + 20 ≤ (n : Int)) = false := decide_eq_false tn
      gi_wp2
      go_end0
      exact ⟨⟨_, rfl⟩, .inl hJs.out⟩
/-- the iterator's maker -/
theorem entries_any (a : Option Addr) (n c : Nat) (w : World) : Calls Try.prog 40 #[.slice a n c] w fun e w' => e = .returned (.func (.func 52) #[] #[.pointer (some ⟨w.heap.size, 0, none⟩)]) ∧ w' = w.alloc (.cells #[.slice a n c] 22) := by
  go_enter Try.func40, Try.ntmps40
  go_wp2_with fail
  go_ret
  exact ⟨rfl, rfl⟩
theorem entries_stops (nn : Nat) (hn : 1 ≤ nn) (Bs g o m c : Nat) (B : Nat → Int) (hB : ∀ i, 0 ≤ B i ∧ B i < 256) (hm : m ≤ 64) (hc : m * 20 ≤ c) (w : World)
    (hBs : w.cell? ⟨Bs, 0, none⟩ = some (.slice (some ⟨g, o, none⟩) (m * 20) c)) (lb : Bs < w.heap.size) (lg : g < w.heap.size) (hcs : ∀ i, i < m * 20 → w.cell? ⟨g, o + i, none⟩ = some (.int .u8 (B i))) :
    SeqStopsK Fence.wide nn Try.prog 52 #[.pointer (some ⟨Bs, 0, none⟩)] encA (Kg (fun j => j = g ∨ j = Bs)) (fun ys => ys = areasL B m) (fun pre => ∃ k, k ≤ m ∧ pre = areasL B k) m w := fun l J Jx W hW hJ _ hY h0 =>
  entries1_in nn hn l Bs g o m c B hB hm hc J Jx W hJ hY ((hW.cell (p := ⟨Bs, 0, none⟩) lb).trans hBs) (Nat.lt_of_lt_of_le lb hW.size) (Nat.lt_of_lt_of_le lg hW.size) (fun i hi => (hW.cell (p := ⟨g, o + i, none⟩) lg).trans (hcs i hi)) h0
end Go.Proofs.Ytpfcpmhpekidkaa.Bm
