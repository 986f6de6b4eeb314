/- The contract of ram's write into a frame that has no page yet. -/
import Derived.Test.YtkiclbnbnjbcaabDoorR4
namespace Go.Proofs.YtkiclbnbnjbcaabDoor
open Go.ChangeShapes Go.WideShapes Go.ChangeAt Go.RowKit Go.Maps
set_option linter.unusedSimpArgs false
set_option linter.unusedVariables false
set_option maxRecDepth 8000

theorem zero_run (w : World) : (zeroValue 125).run Tryd.prog w = .ok (.agg (Array.replicate 4096 (.int .u8 0))) w := by kernel_rfl
theorem zero_page : ∃ zs : Array Value, (∀ w : World, (zeroValue 125).run Tryd.prog w = .ok (.agg zs) w) ∧ ∀ i, i < 4096 → zs[i]? = some (.int .u8 0) :=
  ⟨Array.replicate 4096 (.int .u8 0), zero_run, fun i hi => by rw [Array.getElem?_replicate, if_pos hi]⟩

set_option maxHeartbeats 1000000 in
theorem write_none (rb mb n : Nat) (pg : Int → Option Nat) (k a m x : Int) (w : World) (k0 : -9223372036854775808 ≤ k) (k1 : k ≤ 9223372036854775807)
    (c2 : w.cell? ⟨rb, 2, none⟩ = some (.map (some mb))) (hrb : rb < w.heap.size) (hm : Mem w mb n pg) (hn : n < maxLen) (hp : pg k = none)
    (a0 : 0 ≤ a) (m0 : 0 ≤ m) (m8 : m ≤ 8) (am : a + m ≤ 4096) (x0 : 0 ≤ x) (x1 : x < 18446744073709551616) :
    Calls Tryd.prog 64 #[.pointer (some ⟨rb, 0, none⟩), .int .i64 k, .int .i64 a, .int .i64 m, .int .u64 x] w fun e w' => e = .returned (.tuple #[]) ∧
      Mem w' mb (n + 1) (put pg k (some w.heap.size)) ∧ Page w' w.heap.size (cset (fun _ => 0) a.toNat m.toNat x) ∧ w.grownBy w' (some mb) := by
  have hl := hm.look k0 k1
  rw [hp] at hl
  have hl' : (Instr.lookup 97 (.map (some mb)) (.int .i64 k) false).run Tryd.prog w = .ok (.pointer none) w := hl
  obtain ⟨zs, hbuild, hzs⟩ := zero_page
  have hmb := hm.lt
  have hg0 : w.grownBy (w.alloc (.cells zs 125)) none := World.grownBy_alloc w _ none
  obtain ⟨w1, hst, hm1, hg1⟩ := (hm.kept hg0 (by simp)).store hn k0 k1 w.heap.size
  have hst' : (Instr.mapUpdate 97 (.map (some mb)) (.int .i64 k) (.pointer (some ⟨w.heap.size, 0, none⟩))).run Tryd.prog (w.alloc (.cells zs 125)) = .ok () w1 := hst
  have hc2 : (w.alloc (.cells zs 125)).cell? ⟨rb, 2, none⟩ = some (.map (some mb)) := by rw [World.cell?_alloc_past _ _ _ hrb]; exact c2
  have hpage : Page w1 w.heap.size (fun _ => 0) := by
    intro i hi
    have hb : w1.heap[w.heap.size]? = (w.alloc (.cells zs 125)).heap[w.heap.size]? := hg1.block _ (by rw [World.size_alloc]; omega) (by intro e; cases e; omega)
    have e1 : w1.cell? ⟨w.heap.size, i, none⟩ = (w.alloc (.cells zs 125)).cell? ⟨w.heap.size, i, none⟩ := World.cell?_of_block hb
    have e2 : w1.frozen? ⟨w.heap.size, i, none⟩ = (w.alloc (.cells zs 125)).frozen? ⟨w.heap.size, i, none⟩ := World.frozen?_of_block hb
    rw [e1, e2, World.cell?_alloc_at _ _ _ _ rfl, World.frozen?_alloc_at _ _ _ _ rfl]
    exact ⟨hzs i hi, rfl⟩
  have hgw : w.grownBy w1 (some mb) := ⟨hg1.os, hg1.tape, hg1.output, by have := hg1.size; rw [World.size_alloc] at this; omega, fun j hj hne => by
    rw [hg1.block j (by rw [World.size_alloc]; omega) hne]; exact hg0.block j hj (by simp)⟩
  have hsz : w.heap.size < w1.heap.size := by have := hg1.size; rw [World.size_alloc] at this; omega
  obtain ⟨b, hb⟩ : ∃ b, w.heap.size = b := ⟨_, rfl⟩
  have HB : Hid (w.heap.size = b) := hb
  have HM : Hid (Mem w1 mb (n + 1) (put pg k (some b)) ∧ w.grownBy w1 (some mb) ∧ mb < b ∧ b < w1.heap.size) := ⟨by rw [← hb]; exact hm1, hgw, by omega, by omega⟩
  rw [hb] at hpage
  clear hl hp hm hm1 hg0 hg1 hst hzs hgw hsz hmb
  rw [hb] at hst' ⊢
  go_enter Tryd.func64, Tryd.ntmps64
  go_wp2
  go_loopw [29] (fun i wr => ∃ j : Int, 0 ≤ j ∧ j ≤ m ∧ i = .int .i64 j ∧ Page wr b (cset (fun _ => 0) a.toNat j.toNat x) ∧ w1.grownBy wr (some b)) (fun i _ => (m - intOf i).toNat)
  case atStart => exact ⟨0, by omega, by omega, rfl, by intro i hi; have := hpage i hi; unfold cset; rw [if_neg (by omega)]; exact this, World.grownBy.refl _ _⟩
  case round =>
    obtain ⟨j, j0, j1, rfl, hpj, hgj⟩ := hrel
    by_cases cj : j < m
    · obtain ⟨u, hu⟩ : ∃ u : Int, cset (fun _ => 0) a.toNat j.toNat x (a + j).toNat = u := ⟨_, rfl⟩
      have hcl := hpj (a + j).toNat (by omega)
      rw [hu] at hcl
      obtain ⟨hcell, hfroz⟩ := hcl
      have hnx : Page (wr.setCell ⟨b, (a + j).toNat, none⟩ (.int .u8 (x / 2 ^ (8 * j).toNat % 256))) b (cset (fun _ => 0) a.toNat (j + 1).toNat x) := by
        rw [show (a + j).toNat = a.toNat + j.toNat by omega, show (j + 1).toNat = j.toNat + 1 by omega]
        exact Page.set hpj (by omega) (by rw [show (8 * j).toNat = 8 * j.toNat by omega, pow256]) hpj
      have HP : Hid (Page (wr.setCell ⟨b, (a + j).toNat, none⟩ (.int .u8 (x / 2 ^ (8 * j).toNat % 256))) b (cset (fun _ => 0) a.toNat (j + 1).toNat x)) := hnx
      clear hnx hu hpage hl' hst' hc2 hbuild c2
      go_wp2
      go_region
      go_wp2
      go_roundw
      case rel => exact ⟨j + 1, by omega, by omega, rfl, HP.out, grown_drew (grown_set hgj _ _)⟩
      case measure => simp [intOf]; omega
    · have e : j = m := by omega
      subst e
      go_wp2
      go_end0
      obtain ⟨hM, hG, hlt, hlt2⟩ := HM.out
      refine ⟨rfl, hM.kept hgj (by intro e; cases e; omega), hpj, ⟨?_, ?_, ?_, ?_, ?_⟩⟩
      · rw [hgj.os]; exact hG.os
      · rw [hgj.tape]; exact hG.tape
      · rw [hgj.output]; exact hG.output
      · exact Nat.le_trans hG.size hgj.size
      · intro i hi hne
        have hib : i < b := by rw [← HB.out]; exact hi
        rw [hgj.block i (by omega) (by intro e; cases e; omega), hG.block i hi hne]
end Go.Proofs.YtkiclbnbnjbcaabDoor
