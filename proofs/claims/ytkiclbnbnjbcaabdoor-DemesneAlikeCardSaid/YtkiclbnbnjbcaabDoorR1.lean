/- Laws on a memory's map of pages, and the contracts of ram's small functions. -/
import Derived.Test.YtkiclbnbnjbcaabDoorRows
import Derived.WalkKit
import Derived.ProofKit
import Derived.OpenShut
import Derived.WalkLawsBesides
import Derived.Deep.Light
import Derived.Deep.Draws
import Derived.Maps.OwnSet
import Derived.Maps.OwnOps
import Derived.Laws.ShiftsVar
namespace Go.Proofs.YtkiclbnbnjbcaabDoor
open Go.ChangeShapes Go.WideShapes Go.ChangeAt Go.RowKit Go.Maps
set_option linter.unusedSimpArgs false
set_option linter.unusedVariables false
set_option maxRecDepth 8000

/-! ### the map of pages -/
theorem keyLaw : Keyed Tryd.prog 3 := int_keyed Tryd.underlying3
theorem zeroPtr (w : World) : (zeroValue 123).run Tryd.prog w = .ok (.pointer none) w := by kernel_rfl
def pgD : Option Nat → DataW Unit
  | none => .nil
  | some b => .lit (.int .u64 b)
def pgV : Option Nat → Value
  | none => .pointer none
  | some b => .pointer (some ⟨b, 0, none⟩)
def ptrElem (v : Value) : Option (DataW Unit × List MemPlace) :=
  match v with
  | .pointer none => some (pgD none, [])
  | .pointer (some a) => if a.off = 0 ∧ a.spot = none then some (pgD (some a.block), []) else none
  | _ => none
theorem ptrElem_pgV (o : Option Nat) : ptrElem (pgV o) = some (pgD o, []) := by cases o <;> simp [ptrElem, pgV]

theorem ptrElem_inv {v : Value} {o : Option Nat} {ps : List MemPlace} (h : ptrElem v = some (pgD o, ps)) : v = pgV o := by
  unfold ptrElem at h
  split at h
  · cases o with
    | none => rfl
    | some b => simp [pgD] at h
  · rename_i a
    split at h
    · rename_i c
      cases o with
      | none => simp [pgD] at h
      | some b =>
        simp [pgD] at h
        obtain ⟨h1, h2⟩ := c
        cases a; simp_all [pgV]; omega
    · cases h
  · cases h

/-- the map in block mb, of at most n entries, holds just these pages -/
def Mem (w : World) (mb n : Nat) (pg : Int → Option Nat) : Prop :=
  ∃ D : DataW Unit, w.ownsMap Tryd.prog 3 ptrElem mb n D ∧ ∀ k, D.atKey (.int .i64 k) .nil = pgD (pg k)
def put (pg : Int → Option Nat) (k : Int) (o : Option Nat) : Int → Option Nat := fun j => if j = k then o else pg j

theorem wf64 {k : Int} (h0 : -9223372036854775808 ≤ k) (h1 : k ≤ 9223372036854775807) : (Lit.int .i64 k).wf = true := by
  simp [Lit.wf, IntKind.min, IntKind.max, IntKind.signed, IntKind.bits]; omega

theorem Mem.look {w : World} {mb n : Nat} {pg : Int → Option Nat} (h : Mem w mb n pg) {k : Int} (h0 : -9223372036854775808 ≤ k) (h1 : k ≤ 9223372036854775807) :
    (Instr.lookup 97 (.map (some mb)) (.int .i64 k) false).run Tryd.prog w = .ok (pgV (pg k)) w := by
  obtain ⟨D, hown, hD⟩ := h
  obtain ⟨v, ps, hrun, hv⟩ := hown.lookup keyLaw Tryd.underlying97 (zeroPtr w) (zd := .nil) (zp := []) rfl (keyOf_int_mk Tryd.underlying3 (wf64 h0 h1))
  rw [hD] at hv
  rw [hrun, ptrElem_inv hv]
theorem Mem.store {w : World} {mb n : Nat} {pg : Int → Option Nat} (h : Mem w mb n pg) (hn : n < maxLen) {k : Int} (h0 : -9223372036854775808 ≤ k) (h1 : k ≤ 9223372036854775807) (b : Nat) :
    ∃ w', (Instr.mapUpdate 97 (.map (some mb)) (.int .i64 k) (pgV (some b))).run Tryd.prog w = .ok () w' ∧ Mem w' mb (n + 1) (put pg k (some b)) ∧ w.grownBy w' (some mb) := by
  obtain ⟨D, hown, hD⟩ := h
  have hkey := keyOf_int_mk Tryd.underlying3 (wf64 h0 h1)
  obtain ⟨w', hrun, hown', hg⟩ := hown.update keyLaw Tryd.underlying97 hn hkey (ptrElem_pgV (some b))
  refine ⟨w', hrun, ⟨_, hown', ?_⟩, hg⟩
  intro j
  unfold put
  by_cases c : j = k
  · subst c; rw [if_pos rfl]; exact atKey_put_same hown.isMap (by trivial) _ _
  · rw [if_neg c, atKey_put_other (by intro e; cases e; exact c rfl)]; exact hD j
theorem Mem.kept {w w' : World} {mb n : Nat} {pg : Int → Option Nat} {row : Option Nat} (h : Mem w mb n pg) (hg : w.grownBy w' row) (hne : some mb ≠ row) : Mem w' mb n pg := by
  obtain ⟨D, hown, hD⟩ := h
  exact ⟨D, hown.kept hg hne, hD⟩
theorem Mem.lt {w : World} {mb n : Nat} {pg : Int → Option Nat} (h : Mem w mb n pg) : mb < w.heap.size := by
  obtain ⟨D, hown, _⟩ := h; exact hown.lt
theorem Mem.drew {w : World} {mb n m : Nat} {pg : Int → Option Nat} (h : Mem w mb n pg) : Mem (w.drewN m) mb n pg := h
theorem Mem.made (w : World) : Mem (w.alloc (.map #[] 0)) w.heap.size 0 (fun _ => none) :=
  ⟨.map [], World.ownsMap_made w Tryd.prog 3 ptrElem, fun _ => rfl⟩

/-! ### the small functions -/
set_option maxHeartbeats 400000 in
theorem split_in (addr size : Int) (h0 : 0 ≤ addr) (h1 : addr < 18446744073709551616) (s0 : 0 ≤ size) (s1 : size ≤ 8) (c : size ≤ 4096 - addr % 4096) (w : World) :
    Calls Tryd.prog 63 #[.int .u64 addr, .int .i64 size] w fun e w' => e = .returned (.tuple #[.int .i64 (addr / 4096), .int .i64 (addr % 4096), .int .i64 size]) ∧ w' = w := by
  go_enter Tryd.func63, Tryd.ntmps63
  go_wp2
  go_ret3
  exact ⟨rfl, rfl⟩
set_option maxHeartbeats 400000 in
theorem split_over (addr size : Int) (h0 : 0 ≤ addr) (h1 : addr < 18446744073709551616) (s0 : 0 ≤ size) (s1 : size ≤ 8) (c : 4096 - addr % 4096 < size) (w : World) :
    Calls Tryd.prog 63 #[.int .u64 addr, .int .i64 size] w fun e w' => e = .returned (.tuple #[.int .i64 (addr / 4096), .int .i64 (addr % 4096), .int .i64 (4096 - addr % 4096)]) ∧ w' = w := by
  go_enter Tryd.func63, Tryd.ntmps63
  go_wp2
  go_ret3
  exact ⟨rfl, rfl⟩

/-- a memory without holes: is a frame there? -/
def hasF (F k : Int) : Bool := decide (0 ≤ k) && decide (k < F)
set_option maxHeartbeats 400000 in
theorem has_nil (rb : Nat) (F k : Int) (w : World) (c0 : w.cell? ⟨rb, 0, none⟩ = some (.int .i64 F)) (c1 : w.cell? ⟨rb, 1, none⟩ = some (.slice none 0 0)) :
    Calls Tryd.prog 60 #[.pointer (some ⟨rb, 0, none⟩), .int .i64 k] w fun e w' => e = .returned (.bool (hasF F k)) ∧ w' = w := by
  by_cases a : k < 0
  · have hh : Hid (hasF F k = false) := by show hasF F k = false; unfold hasF; rw [decide_eq_false (by omega), Bool.false_and]
    go_enter Tryd.func60, Tryd.ntmps60
    go_wp2
    go_ret
    exact ⟨by rw [hh.out]; rfl, rfl⟩
  · by_cases b : F ≤ k
    · have hh : Hid (hasF F k = false) := by show hasF F k = false; unfold hasF; rw [decide_eq_false (by omega : ¬ k < F), Bool.and_false]
      go_enter Tryd.func60, Tryd.ntmps60
      go_wp2
      go_ret
      exact ⟨by rw [hh.out]; rfl, rfl⟩
    · have hh : Hid (hasF F k = true) := by show hasF F k = true; unfold hasF; rw [decide_eq_true (by omega), decide_eq_true (by omega)]; rfl
      go_enter Tryd.func60, Tryd.ntmps60
      go_wp2
      refine wp_loop_rounds 1 ?_
      rw [rounds_succ]
      go_wp2
      go_ret
      exact ⟨by rw [hh.out]; rfl, rfl⟩
end Go.Proofs.YtkiclbnbnjbcaabDoor
