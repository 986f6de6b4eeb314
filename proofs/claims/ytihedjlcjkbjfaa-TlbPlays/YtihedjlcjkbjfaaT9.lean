/- The translations' store: a new one; the laws' awake. -/
import Derived.Test.YtihedjlcjkbjfaaT8
namespace Go.Proofs.Ytihedjlcjkbjfaa
open Go.ChangeShapes Go.WideShapes Go.ChangeAt Go.RowKit Go.Maps
set_option linter.unusedSimpArgs false
set_option linter.unusedVariables false
set_option maxRecDepth 8000

def T0 : Nat → Ln := fun _ => Ln.zero
theorem flat_get (T : Nat → Ln) (q r : Nat) (q16 : q < 16) (r9 : r < 9) : (flatT T)[q * 9 + r]? = (T q).enc[r]? := by
  rcases (show q = 0 ∨ q = 1 ∨ q = 2 ∨ q = 3 ∨ q = 4 ∨ q = 5 ∨ q = 6 ∨ q = 7 ∨ q = 8 ∨ q = 9 ∨ q = 10 ∨ q = 11 ∨ q = 12 ∨ q = 13 ∨ q = 14 ∨ q = 15 by omega) with rfl | rfl | rfl | rfl | rfl | rfl | rfl | rfl | rfl | rfl | rfl | rfl | rfl | rfl | rfl | rfl <;> rcases (show r = 0 ∨ r = 1 ∨ r = 2 ∨ r = 3 ∨ r = 4 ∨ r = 5 ∨ r = 6 ∨ r = 7 ∨ r = 8 by omega) with rfl | rfl | rfl | rfl | rfl | rfl | rfl | rfl | rfl <;> rfl
theorem zero30 : ∃ Zs : Array Value, (∀ W : World, (zeroValue 58).run Try.prog W = .ok (.agg Zs) W) ∧ Zs.size = 144 ∧ ∀ q r, q < 16 → r < 9 → Zs[q * 9 + r]? = Ln.zero.enc[r]? :=
  ⟨(flatT T0).toArray, fun W => by kernel_rfl, rfl, fun q r h1 h2 => by rw [List.getElem?_toArray]; exact flat_get T0 q r h1 h2⟩
theorem IsTlb.made (w : World) (Zs : Array Value) (hs : Zs.size = 144) (hz : ∀ q r, q < 16 → r < 9 → Zs[q * 9 + r]? = Ln.zero.enc[r]?) : IsTlb (w.alloc (.cells Zs 58)) w.heap.size T0 := by
  refine ⟨fun i hi j v hv => ?_, ?_, by simp⟩
  · have hj : j < 9 := (List.getElem?_eq_some_iff.1 hv).1
    exact (Go.Joins.cell_of_block (own1 w _) _).trans ((hz i j hi hj).trans hv)
  · have := there_block (own1 w (.cells Zs 58))
    rwa [hs] at this
/-- a store of its own, made behind w -/
def Own (w W : World) (b : Nat) (T : Nat → Ln) : Prop := IsTlb W b T ∧ Below w.heap.size w W ∧ w.heap.size ≤ b
theorem Own.next {w W W' : World} {b : Nat} {T T' : Nat → Ln} (h : Own w W b T) (hT : IsTlb W' b T') (hg : W.grownBy W' (some b)) : Own w W' b T' :=
  ⟨hT, h.2.1.trans ⟨hg.os, hg.tape, hg.output, hg.size, fun k hk => hg.block k (Nat.lt_of_lt_of_le hk h.2.1.size) (fun e => by have := Option.some.inj e; have := h.2.2; omega)⟩, h.2.2⟩
theorem Own.grow {w W W' : World} {b : Nat} {T : Nat → Ln} (h : Own w W b T) (hb : Below W.heap.size W W') : Own w W' b T := ⟨h.1.below hb, below_then h.2.1 hb, h.2.2⟩
def l9 : Ln := ⟨true, 1, 9, 5, false, false, false, false, false⟩
theorem own_len {w : World} {base n e s : Nat} {v : Value} {xs : List Value} (h : w.ownsRow base e s v n xs) : ∃ p c, v = .slice p n c := by
  obtain ⟨h1, h2 | ⟨g', cap', cur, e1, e2, e3, e4⟩⟩ := h
  · exact ⟨none, 0, by rw [h2.1, h2.2]⟩
  · exact ⟨_, cap', e1⟩
set_option maxHeartbeats 1000000 in
theorem awake_any (w : World) : Calls Try.prog 21 #[] w fun e w' => e = .returned (.bool true) ∧ Below w.heap.size w w' := by
  obtain ⟨Zs, hz, hs, hzz⟩ := zero30
  have M : Hid (Own w (w.alloc (.cells Zs 58)) w.heap.size T0) := ⟨IsTlb.made w Zs hs hzz, Go.Joins.below_alloc1 _ _, Nat.le_refl _⟩
  have FI : Hid (∀ (W : World) (T : Nat → Ln), IsTlb W w.heap.size T → Calls Try.prog 33 #[.pointer (some ⟨w.heap.size, 0, none⟩), .int .i64 0, .agg #[.bool true, .int .i64 1, .int .i64 9, .int .i64 5, .bool false, .bool false, .bool false, .bool false, .bool false]] W fun e w' => e = .returned (.int .i64 0) ∧ IsTlb w' w.heap.size (fillT T 0 l9) ∧ W.grownBy w' (some w.heap.size)) := fun W T h => fill_ok w.heap.size T l9 0 1 (by omega) (by decide) (by decide) (by decide) W h
  have G1 : Hid (∀ (W : World), IsTlb W w.heap.size (fillT T0 0 l9) → Calls Try.prog 25 #[.pointer (some ⟨w.heap.size, 0, none⟩), .int .i64 1, .int .i64 9] W fun e w' => e = .returned (.tuple #[.agg #[.bool true, .int .i64 1, .int .i64 9, .int .i64 5, .bool false, .bool false, .bool false, .bool false, .bool false], .bool true]) ∧ Below W.heap.size W w') := fun W h => find_any w.heap.size _ 1 9 W h
  have G2 : Hid (∀ (W : World), IsTlb W w.heap.size (fillT T0 0 l9) → Calls Try.prog 25 #[.pointer (some ⟨w.heap.size, 0, none⟩), .int .i64 2, .int .i64 9] W fun e w' => e = .returned (.tuple #[.agg #[.bool false, .int .i64 0, .int .i64 0, .int .i64 0, .bool false, .bool false, .bool false, .bool false, .bool false], .bool false]) ∧ Below W.heap.size W w') := fun W h => find_any w.heap.size _ 2 9 W h
  have LI : Hid (∀ (W : World), IsTlb W w.heap.size (fillT T0 0 l9) → Calls Try.prog 23 #[.pointer (some ⟨w.heap.size, 0, none⟩)] W fun e w' => (∃ p c, e = .returned (.slice p 1 c)) ∧ Below W.heap.size W w') := fun W h => (lines_any w.heap.size _ W h).mono fun e w' ⟨v, he, ho, hb⟩ => by
    obtain ⟨p, c, rfl⟩ := own_len ho
    exact ⟨⟨p, c, he⟩, hb⟩
  clear hs hzz
  go_enter Try.func21, Try.ntmps21
  go_wp2_with fail
  refine (FI.out _ _ M.out.1).mono ?_
  rintro e u1 ⟨rfl, h1, h2⟩
  have M1 : Hid (Own w u1 w.heap.size (fillT T0 0 l9)) := M.out.next h1 h2
  clear h1 h2 M
  go_wp2_with fail
  refine (G1.out _ M1.out.1).mono ?_
  rintro e u2 ⟨rfl, hb⟩
  have M2 : Hid (Own w u2 w.heap.size (fillT T0 0 l9)) := M1.out.grow hb
  clear hb M1
  go_wp2_with fail
  refine (G2.out _ (M2.out.grow (Go.Joins.below_alloc1 _ _)).1).mono ?_
  rintro e u3 ⟨rfl, hb⟩
  have M3 : Hid (Own w u3 w.heap.size (fillT T0 0 l9)) := (M2.out.grow (Go.Joins.below_alloc1 _ _)).grow hb
  have c3 : u3.cell? ⟨u2.heap.size, 3, none⟩ = some (.int .i64 5) := (hb.cell (p := ⟨u2.heap.size, 3, none⟩) (by simp)).trans (by simp)
  have z3 : u2.heap.size < u3.heap.size := Nat.lt_of_lt_of_le (by simp) hb.size
  clear hb M2
  go_wp2_with fail
  refine (LI.out _ (M3.out.grow (Go.Joins.below_alloc1 _ _)).1).mono ?_
  rintro e u4 ⟨⟨p, c, rfl⟩, hb⟩
  have M4 : Hid (Own w u4 w.heap.size (fillT T0 0 l9)) := (M3.out.grow (Go.Joins.below_alloc1 _ _)).grow hb
  clear hb M3
  go_wp2_with fail
  go_ret
  exact ⟨rfl, M4.out.2.1⟩
end Go.Proofs.Ytihedjlcjkbjfaa
