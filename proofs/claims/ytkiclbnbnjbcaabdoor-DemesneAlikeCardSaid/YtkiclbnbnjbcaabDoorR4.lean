/- The contract of ram's write into a page that is there. -/
import Derived.Test.YtkiclbnbnjbcaabDoorR3
import Derived.RegionTactic
import Derived.BigRegion
namespace Go.Proofs.YtkiclbnbnjbcaabDoor
open Go.ChangeShapes Go.WideShapes Go.ChangeAt Go.RowKit Go.Maps
set_option linter.unusedSimpArgs false
set_option linter.unusedVariables false
set_option maxRecDepth 8000

/-- a page's bytes behind a store of m bytes of x -/
def cset (c : Nat → Int) (a m : Nat) (x : Int) : Nat → Int := fun i => if a ≤ i ∧ i < a + m then x / 256 ^ (i - a) % 256 else c i
/-- block b holds these 4096 bytes, and may be written -/
def Page (w : World) (b : Nat) (c : Nat → Int) : Prop := ∀ i, i < 4096 → w.cell? ⟨b, i, none⟩ = some (.int .u8 (c i)) ∧ w.frozen? ⟨b, i, none⟩ = false

theorem Page.set {w : World} {b : Nat} {c c' : Nat → Int} (h : Page w b c') {a m : Nat} {x : Int} (hm : a + m < 4096) {v : Int} (hv : v = x / 256 ^ m % 256) (hc : Page w b (cset c a m x)) :
    Page (w.setCell ⟨b, a + m, none⟩ (.int .u8 v)) b (cset c a (m + 1) x) := by
  intro i hi
  obtain ⟨h1, h2⟩ := hc i hi
  refine ⟨?_, by rw [World.frozen?_setCell]; exact h2⟩
  by_cases e : i = a + m
  · subst e
    have := (hc (a + m) hi).1
    rw [World.cell?_setCell_same' w _ _ (by rw [this]; rfl)]
    unfold cset
    rw [if_pos ⟨by omega, by omega⟩, hv, show a + m - a = m by omega]
  · have hne : (⟨b, a + m, none⟩ : Addr) ≠ ⟨b, i, none⟩ := by intro k; cases k; omega
    have ho : (w.setCell ⟨b, a + m, none⟩ (.int .u8 v)).cell? ⟨b, i, none⟩ = w.cell? ⟨b, i, none⟩ := World.cell?_setCell_other (h := hne) ..
    rw [ho, h1]
    unfold cset
    by_cases c1 : a ≤ i ∧ i < a + m
    · rw [if_pos c1, if_pos ⟨by omega, by omega⟩]
    · rw [if_neg c1, if_neg (by omega)]

theorem grown_set {w wr : World} {b : Nat} (h : w.grownBy wr (some b)) (o : Nat) (v : Value) : w.grownBy (wr.setCell ⟨b, o, none⟩ v) (some b) :=
  ⟨h.os, h.tape, h.output, by rw [World.size_setCell]; exact h.size, fun k hk hne => by rw [Below.heap_setCell _ _ _ _ (fun e => hne (by rw [e])), h.block k hk hne]⟩
theorem grown_drew {w wr : World} {row : Option Nat} (h : w.grownBy wr row) : w.grownBy wr.drew row := ⟨h.os, h.tape, h.output, h.size, h.block⟩

set_option maxHeartbeats 1000000 in
theorem write_some (rb mb n b : Nat) (pg : Int → Option Nat) (c : Nat → Int) (k a m x : Int) (w : World) (k0 : -9223372036854775808 ≤ k) (k1 : k ≤ 9223372036854775807)
    (c2 : w.cell? ⟨rb, 2, none⟩ = some (.map (some mb))) (hm : Mem w mb n pg) (hp : pg k = some b)
    (hpage : Page w b c) (a0 : 0 ≤ a) (m0 : 0 ≤ m) (m8 : m ≤ 8) (am : a + m ≤ 4096) (x0 : 0 ≤ x) (x1 : x < 18446744073709551616) :
    Calls Tryd.prog 64 #[.pointer (some ⟨rb, 0, none⟩), .int .i64 k, .int .i64 a, .int .i64 m, .int .u64 x] w fun e w' => e = .returned (.tuple #[]) ∧ Page w' b (cset c a.toNat m.toNat x) ∧ w.grownBy w' (some b) := by
  have hl := hm.look k0 k1
  rw [hp] at hl
  have hl' : (Instr.lookup 97 (.map (some mb)) (.int .i64 k) false).run Tryd.prog w = .ok (.pointer (some ⟨b, 0, none⟩)) w := hl
  clear hl hp hm
  go_enter Tryd.func64, Tryd.ntmps64
  go_wp2
  go_loopw [29] (fun i wr => ∃ j : Int, 0 ≤ j ∧ j ≤ m ∧ i = .int .i64 j ∧ Page wr b (cset c a.toNat j.toNat x) ∧ w.grownBy wr (some b)) (fun i _ => (m - intOf i).toNat)
  case atStart => exact ⟨0, by omega, by omega, rfl, by intro i hi; have := hpage i hi; unfold cset; rw [if_neg (by omega)]; exact this, World.grownBy.refl _ _⟩
  case round =>
    obtain ⟨j, j0, j1, rfl, hpj, hgj⟩ := hrel
    by_cases cj : j < m
    · obtain ⟨u, hu⟩ : ∃ u : Int, cset c a.toNat j.toNat x (a + j).toNat = u := ⟨_, rfl⟩
      have hcl := hpj (a + j).toNat (by omega)
      rw [hu] at hcl
      obtain ⟨hcell, hfroz⟩ := hcl
      have hnx : Page (wr.setCell ⟨b, (a + j).toNat, none⟩ (.int .u8 (x / 2 ^ (8 * j).toNat % 256))) b (cset c a.toNat (j + 1).toNat x) := by
        rw [show (a + j).toNat = a.toNat + j.toNat by omega, show (j + 1).toNat = j.toNat + 1 by omega]
        exact Page.set hpj (by omega) (by rw [show (8 * j).toNat = 8 * j.toNat by omega, pow256]) hpj
      have HP : Hid (Page (wr.setCell ⟨b, (a + j).toNat, none⟩ (.int .u8 (x / 2 ^ (8 * j).toNat % 256))) b (cset c a.toNat (j + 1).toNat x)) := hnx
      clear hnx hu hpage
      go_wp2
      go_region
      go_wp2
      go_roundw
      case rel => exact ⟨j + 1, by omega, by omega, rfl, HP.out, grown_drew (grown_set hgj _ _)⟩
      case measure => simp [intOf]; omega
    · have e : j = m := by omega
      subst e
      go_wp2
      go_end0
      exact ⟨rfl, hpj, hgj⟩
end Go.Proofs.YtkiclbnbnjbcaabDoor
