/- The document's memory: a map of bytes; what stands in it behind a store, a copy, a zero. -/
import Derived.Test.YtaebihgegiddnaaDoorRAwake
import Derived.Test.YtaebihgegiddnaaDoorPM
import Derived.WalkKit
import Derived.ProofKit
import Derived.OpenShut
import Derived.Deep.Light
import Derived.Deep.MidRow
import Derived.Deep.RegionHeld3
import Derived.Deep.DrawnRows
import Derived.Handy
import Derived.Deep.Slices
import Derived.Lib.SmallJoins
import Derived.Carry
namespace Go.Proofs.YtaebihgegiddnaaDoor
open Go.ChangeShapes Go.WideShapes Go.ChangeAt Go.RowKit Go.Maps
set_option linter.unusedSimpArgs false
set_option linter.unusedVariables false
set_option maxRecDepth 8000

theorem keyU : Keyed Tryd.prog 32 := int_keyed Tryd.underlying32
/-- the map in block mb, of at most n entries, holds these bytes -/
def BMem (w : World) (mb n : Nat) (B : Int → Int) : Prop := ∃ D : DataW Unit, w.ownsMap Tryd.prog 32 (plainElem Tryd.prog 5) mb n D ∧ ∀ k, D.atKey (.int .u64 k) (.lit (.int .u8 0)) = .lit (.int .u8 (B k))
def bput (B : Int → Int) (k c : Int) : Int → Int := fun j => if j = k then c else B j
theorem BMem.kept {w w' : World} {mb n : Nat} {B : Int → Int} {row : Option Nat} (h : BMem w mb n B) (hg : w.grownBy w' row) (hne : some mb ≠ row) : BMem w' mb n B := by
  obtain ⟨D, hown, hD⟩ := h
  exact ⟨D, hown.kept hg hne, hD⟩
theorem BMem.lt {w : World} {mb n : Nat} {B : Int → Int} (h : BMem w mb n B) : mb < w.heap.size := by
  obtain ⟨D, hown, _⟩ := h; exact hown.lt
theorem BMem.made (w : World) : BMem (w.alloc (.map #[] 0)) w.heap.size 0 (fun _ => 0) :=
  ⟨.map [], World.ownsMap_made w Tryd.prog 32 (plainElem Tryd.prog 5), fun _ => rfl⟩
theorem BMem.store {w : World} {mb n : Nat} {B : Int → Int} (h : BMem w mb n B) (hn : n < maxLen) {k c : Int} (wk : (Lit.int .u64 k).wf = true) (wc : (Lit.int .u8 c).wf = true) :
    ∃ w', (Instr.mapUpdate 26 (.map (some mb)) (.int .u64 k) (.int .u8 c)).run Tryd.prog w = .ok () w' ∧ BMem w' mb (n + 1) (bput B k c) ∧ w.grownBy w' (some mb) := by
  obtain ⟨D, hown, hD⟩ := h
  obtain ⟨w', hrun, hown', hg⟩ := hown.update keyU Tryd.underlying26 hn (keyOf_int_mk Tryd.underlying32 wk) (plainElem_int Tryd.underlying5 wc)
  refine ⟨w', hrun, ⟨_, hown', ?_⟩, hg⟩
  intro j
  unfold bput
  by_cases q : j = k
  · subst q; rw [if_pos rfl]; exact atKey_put_same hown.isMap (by trivial) _ _
  · rw [if_neg q, atKey_put_other (by intro e; cases e; exact q rfl)]; exact hD j
theorem wp_update_b {op : Oper} {a : Act} {w : World} {K : Act → World → Prop} {Q : Exit → Act → World → Prop} (m x v : Operand) (ho : op.op = .mapUpdate 26 m x v) (mb n : Nat) (B : Int → Int) (k c : Int)
    (hm : a.eval m = .map (some mb)) (hx : a.eval x = .int .u64 k) (hv : a.eval v = .int .u8 c) (wk : (Lit.int .u64 k).wf = true) (wc : (Lit.int .u8 c).wf = true) (h : BMem w mb n B) (hn : n < maxLen)
    (hK : ∀ w', BMem w' mb (n + 1) (bput B k c) → w.grownBy w' (some mb) → K (a.put op.dst undef) w') : op.wp Tryd.prog a w K Q := by
  obtain ⟨w', hrun, h1, h2⟩ := h.store hn wk wc
  unfold Oper.wp
  simp [execOp, ho, hm, hx, hv, hrun, Result.andThen]
  exact hK w' h1 h2
theorem wfU (z : Int) : (Lit.int .u64 (IntKind.u64.wrap z)).wf = true := by
  simp only [IntKind.wrap_u64]
  simp [Lit.wf, IntKind.min, IntKind.max, IntKind.signed, IntKind.bits]; omega
theorem wfB (z : Int) : (Lit.int .u8 (IntKind.u8.wrap z)).wf = true := by
  simp only [IntKind.wrap_u8]
  simp [Lit.wf, IntKind.min, IntKind.max, IntKind.signed, IntKind.bits]; omega
theorem grown2 {a b c : World} {r : Option Nat} (h : a.grownBy b r) (k : b.grownBy c r) : a.grownBy c r := ⟨k.os.trans h.os, k.tape.trans h.tape, k.output.trans h.output, Nat.le_trans h.size k.size, fun j hj hne => (k.block j (Nat.lt_of_lt_of_le hj h.size) hne).trans (h.block j hj hne)⟩
theorem cell_up {w w' : World} {b k i : Nat} {v : Value} (hg : w.grownBy w' (some b)) (l : k < w.heap.size) (ne : k ≠ b) (h : w.cell? ⟨k, i, none⟩ = some v) : w'.cell? ⟨k, i, none⟩ = some v :=
  (World.cell?_of_block (w := w) (a := ⟨k, i, none⟩) (hg.block k l (fun e => ne (Option.some.inj e)))).trans h
theorem wanted_mp {c : Prop} [Decidable c] {a b : Prop} (h : c) (ha : a) : if c then a else b := by rw [if_pos h]; exact ha
theorem zeroB (w : World) : (zeroValue 5).run Tryd.prog w = .ok (.int .u8 0) w := by kernel_rfl
theorem BMem.mono {w : World} {mb n m : Nat} {B : Int → Int} (h : BMem w mb n B) (hn : n ≤ m) : BMem w mb m B := by
  obtain ⟨D, hown, hD⟩ := h
  exact ⟨D, hown.mono hn, hD⟩
theorem BMem.look {w : World} {mb n : Nat} {B : Int → Int} (h : BMem w mb n B) {k : Int} (wk : (Lit.int .u64 k).wf = true) :
    (Instr.lookup 26 (.map (some mb)) (.int .u64 k) false).run Tryd.prog w = .ok (.int .u8 (B k)) w := by
  obtain ⟨D, hown, hD⟩ := h
  obtain ⟨c, hrun, h1, _⟩ := hown.lookup_int keyU Tryd.underlying26 Tryd.underlying5 (zeroB w) (keyOf_int_mk Tryd.underlying32 wk)
  rw [hD] at h1
  cases h1
  exact hrun
theorem BMem.byte {w : World} {mb n : Nat} {B : Int → Int} (h : BMem w mb n B) {k : Int} (wk : (Lit.int .u64 k).wf = true) : 0 ≤ B k ∧ B k < 256 := by
  obtain ⟨D, hown, hD⟩ := h
  obtain ⟨c, hrun, h1, h2⟩ := hown.lookup_int keyU Tryd.underlying26 Tryd.underlying5 (zeroB w) (keyOf_int_mk Tryd.underlying32 wk)
  rw [hD] at h1
  cases h1
  simp [Lit.wf, IntKind.min, IntKind.max, IntKind.signed, IntKind.bits] at h2
  omega
theorem BMem.drop {w : World} {mb n : Nat} {B : Int → Int} (h : BMem w mb n B) {k : Int} (wk : (Lit.int .u64 k).wf = true) :
    ∃ w', (∀ ty, (Builtin.delete_ #[26, 32] ty #[.map (some mb), .int .u64 k]).run Tryd.prog w = .ok (.tuple #[]) w') ∧ BMem w' mb n (bput B k 0) ∧ w.grownBy w' (some mb) := by
  obtain ⟨D, hown, hD⟩ := h
  obtain ⟨w', hrun, hown', ht⟩ := hown.drop keyU Tryd.underlying26 (keyOf_int_mk Tryd.underlying32 wk) 0
  refine ⟨w', fun ty => hrun, ⟨_, hown', ?_⟩, ht.grown⟩
  intro j
  unfold bput
  by_cases c : j = k
  · subst c; rw [if_pos rfl]; exact atKey_del_same _
  · rw [if_neg c, atKey_del_other (by intro e; cases e; exact c rfl)]; exact hD j
theorem wfU2 {k : Int} (h0 : 0 ≤ k) (h1 : k < 18446744073709551616) : (Lit.int .u64 k).wf = true := by
  simp [Lit.wf, IntKind.min, IntKind.max, IntKind.signed, IntKind.bits]; omega
theorem wfB2 {k : Int} (h0 : 0 ≤ k) (h1 : k < 256) : (Lit.int .u8 k).wf = true := by
  simp [Lit.wf, IntKind.min, IntKind.max, IntKind.signed, IntKind.bits]; omega
theorem and255 (x : Int) (x0 : 0 ≤ x) (x1 : x < 18446744073709551616) : bits .and .u64 x 255 = x % 256 := by
  rw [and_mask x x0 x1 0 8 255 (by decide) (by omega)]; simp
/-- one byte more -/
theorem mset_next (M : Int → Int) (a x : Int) (j : Nat) : mset M a ((j : Int) + 1) x = bput (mset M a j x) (a + j) (x / 256 ^ j % 256) := by
  funext t
  unfold mset bput
  by_cases e : t = a + j
  · subst e
    rw [if_pos (by omega), if_pos rfl, show (a + (j : Int) - a).toNat = j by omega]
  · rw [if_neg e]
    show _ = ite _ _ _
    by_cases c : a ≤ t ∧ t < a + j
    · rw [if_pos (by omega), if_pos c]
    · rw [if_neg (by omega), if_neg c]
theorem mset_zero (M : Int → Int) (a x : Int) : mset M a 0 x = M := by
  funext t; unfold mset; rw [if_neg (by omega)]
end Go.Proofs.YtaebihgegiddnaaDoor
