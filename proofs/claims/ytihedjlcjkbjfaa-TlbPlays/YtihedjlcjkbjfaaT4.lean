/- The translations' store: Page, Tag, All, Evict. -/
import Derived.Test.YtihedjlcjkbjfaaT3
namespace Go.Proofs.Ytihedjlcjkbjfaa
open Go.ChangeShapes Go.WideShapes Go.ChangeAt Go.RowKit Go.Maps
set_option linter.unusedSimpArgs false
set_option linter.unusedVariables false
set_option maxRecDepth 8000

theorem cell_grown {w w' : World} {b k i : Nat} {v : Value} (hg : w.grownBy w' (some b)) (l : k < w.heap.size) (ne : k ≠ b) (h : w.cell? ⟨k, i, none⟩ = some v) : w'.cell? ⟨k, i, none⟩ = some v :=
  (World.cell?_of_block (w := w) (a := ⟨k, i, none⟩) (hg.block k l (fun e => ne (Option.some.inj e)))).trans h
theorem size_two (w : World) (a b : Obj) : ((w.alloc a).alloc b).heap.size = w.heap.size + 1 + 1 := by simp
theorem grown_alloc (w : World) (o : Obj) (r : Option Nat) : w.grownBy (w.alloc o) r := grown_of_below (Go.Joins.below_alloc1 w o) r
theorem grown_alloc2 (w : World) (o p : Obj) (r : Option Nat) : w.grownBy ((w.alloc o).alloc p) r := grown_of_below (Go.Joins.below_alloc2 w o p) r
set_option maxHeartbeats 400000 in
theorem page_any (b : Nat) (T : Nat → Ln) (tag page : Int) (w : World) (h : IsTlb w b T) :
    Calls Try.prog 37 #[.pointer (some ⟨b, 0, none⟩), .int .i64 tag, .int .i64 page] w fun e w' => e = .returned (.tuple #[]) ∧ IsTlb w' b (dropT T (fun l => l.fits tag page) 16) ∧ w.grownBy w' (some b) := by
  have hmf : ∀ (fn : Fn) (first cap : Array Value) (w : World), (Instr.makeFunc fn first cap).run Try.prog w = .ok (.func fn first cap) w := fun _ _ _ _ => rfl
  have hb := h.2.2
  have D : Hid (∀ W : World, IsTlb W b T → (W.cell? ⟨w.heap.size, 0, none⟩ = some (.int .i64 tag) ∧ W.cell? ⟨w.heap.size + 1, 0, none⟩ = some (.int .i64 page) ∧ w.heap.size + 1 < W.heap.size) → Calls Try.prog 43 #[.pointer (some ⟨b, 0, none⟩), .func (.func 46) #[] #[.pointer (some ⟨w.heap.size, 0, none⟩), .pointer (some ⟨w.heap.size + 1, 0, none⟩)]] W fun e w' => e = .returned (.tuple #[]) ∧ IsTlb w' b (dropT T (fun l => l.fits tag page) 16) ∧ W.grownBy w' (some b)) := fun W hT hc =>
    drop2 b 46 w.heap.size (w.heap.size + 1) T (fun l => l.fits tag page) (fun W => W.cell? ⟨w.heap.size, 0, none⟩ = some (.int .i64 tag) ∧ W.cell? ⟨w.heap.size + 1, 0, none⟩ = some (.int .i64 page) ∧ w.heap.size + 1 < W.heap.size)
      (fun W W' c hg => ⟨cell_grown hg (by omega) (by omega) c.1, cell_grown hg (by omega) (by omega) c.2.1, Nat.lt_of_lt_of_le c.2.2 hg.size⟩)
      (fun args w => by kernel_rfl)
      (fun W l c => page_cl l _ _ tag page W c.1 c.2.1 (by omega) (by omega)) W hT hc
  have H : Hid (IsTlb w b T) := h
  clear h
  go_enter Try.func37, Try.ntmps37
  go_wp2_with fail
  refine (D.out _ (H.out.below (Go.Joins.below_alloc2 _ _ _)) ⟨by simp, by simp, by simp⟩).mono ?_
  rintro e w' ⟨rfl, h1, h2⟩
  have H1 : Hid _ := h1
  have H2 : Hid _ := h2
  clear h1 h2
  go_wp2_with fail
  go_end0
  exact ⟨rfl, H1.out, grown_trans (grown_alloc2 _ _ _ _) H2.out⟩
set_option maxHeartbeats 400000 in
theorem tag_any (b : Nat) (T : Nat → Ln) (tag : Int) (w : World) (h : IsTlb w b T) :
    Calls Try.prog 38 #[.pointer (some ⟨b, 0, none⟩), .int .i64 tag] w fun e w' => e = .returned (.tuple #[]) ∧ IsTlb w' b (dropT T (fun l => l.t == tag && !l.g) 16) ∧ w.grownBy w' (some b) := by
  have hmf : ∀ (fn : Fn) (first cap : Array Value) (w : World), (Instr.makeFunc fn first cap).run Try.prog w = .ok (.func fn first cap) w := fun _ _ _ _ => rfl
  have hb := h.2.2
  have D : Hid (∀ W : World, IsTlb W b T → (W.cell? ⟨w.heap.size, 0, none⟩ = some (.int .i64 tag) ∧ w.heap.size < W.heap.size) → Calls Try.prog 43 #[.pointer (some ⟨b, 0, none⟩), .func (.func 47) #[] #[.pointer (some ⟨w.heap.size, 0, none⟩)]] W fun e w' => e = .returned (.tuple #[]) ∧ IsTlb w' b (dropT T (fun l => l.t == tag && !l.g) 16) ∧ W.grownBy w' (some b)) := fun W hT hc =>
    drop1 b 47 w.heap.size T (fun l => l.t == tag && !l.g) (fun W => W.cell? ⟨w.heap.size, 0, none⟩ = some (.int .i64 tag) ∧ w.heap.size < W.heap.size)
      (fun W W' c hg => ⟨cell_grown hg (by omega) (by omega) c.1, Nat.lt_of_lt_of_le c.2 hg.size⟩)
      (fun args w => by kernel_rfl)
      (fun W l c => tag_cl l _ tag W c.1 c.2) W hT hc
  have H : Hid (IsTlb w b T) := h
  clear h
  go_enter Try.func38, Try.ntmps38
  go_wp2_with fail
  refine (D.out _ (H.out.below (Go.Joins.below_alloc1 _ _)) ⟨by simp, by simp⟩).mono ?_
  rintro e w' ⟨rfl, h1, h2⟩
  have H1 : Hid _ := h1
  have H2 : Hid _ := h2
  clear h1 h2
  go_wp2_with fail
  go_end0
  exact ⟨rfl, H1.out, grown_trans (grown_alloc _ _ _) H2.out⟩
set_option maxHeartbeats 400000 in
theorem all_any (b : Nat) (T : Nat → Ln) (stay : Bool) (w : World) (h : IsTlb w b T) :
    Calls Try.prog 39 #[.pointer (some ⟨b, 0, none⟩), .bool stay] w fun e w' => e = .returned (.tuple #[]) ∧ IsTlb w' b (dropT T (fun l => !stay || !l.g) 16) ∧ w.grownBy w' (some b) := by
  have hmf : ∀ (fn : Fn) (first cap : Array Value) (w : World), (Instr.makeFunc fn first cap).run Try.prog w = .ok (.func fn first cap) w := fun _ _ _ _ => rfl
  have hb := h.2.2
  have D : Hid (∀ W : World, IsTlb W b T → (W.cell? ⟨w.heap.size, 0, none⟩ = some (.bool stay) ∧ w.heap.size < W.heap.size) → Calls Try.prog 43 #[.pointer (some ⟨b, 0, none⟩), .func (.func 48) #[] #[.pointer (some ⟨w.heap.size, 0, none⟩)]] W fun e w' => e = .returned (.tuple #[]) ∧ IsTlb w' b (dropT T (fun l => !stay || !l.g) 16) ∧ W.grownBy w' (some b)) := fun W hT hc =>
    drop1 b 48 w.heap.size T (fun l => !stay || !l.g) (fun W => W.cell? ⟨w.heap.size, 0, none⟩ = some (.bool stay) ∧ w.heap.size < W.heap.size)
      (fun W W' c hg => ⟨cell_grown hg (by omega) (by omega) c.1, Nat.lt_of_lt_of_le c.2 hg.size⟩)
      (fun args w => by kernel_rfl)
      (fun W l c => all_cl l _ stay W c.1 c.2) W hT hc
  have H : Hid (IsTlb w b T) := h
  clear h
  go_enter Try.func39, Try.ntmps39
  go_wp2_with fail
  refine (D.out _ (H.out.below (Go.Joins.below_alloc1 _ _)) ⟨by simp, by simp⟩).mono ?_
  rintro e w' ⟨rfl, h1, h2⟩
  have H1 : Hid _ := h1
  have H2 : Hid _ := h2
  clear h1 h2
  go_wp2_with fail
  go_end0
  exact ⟨rfl, H1.out, grown_trans (grown_alloc _ _ _) H2.out⟩
end Go.Proofs.Ytihedjlcjkbjfaa
