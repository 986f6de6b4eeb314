/- Tags: a list of integers that comes in; the law's own map beside the tags. -/
import Derived.Test.YtbdakoijhpobdaaK3
namespace Go.Proofs.Ytbdakoijhpobdaa
open Go.ChangeShapes Go.WideShapes Go.ChangeAt Go.RowKit Go.Maps
set_option linter.unusedSimpArgs false
set_option linter.unusedVariables false

def IsInts (w : World) (p : Option Addr) (n : Nat) (A : Nat → Int) : Prop := ∀ i, i < n → ∃ b o, p = some ⟨b, o, none⟩ ∧ b < w.heap.size ∧ w.cell? ⟨b, o + i, none⟩ = some (.int .i64 (A i)) ∧ (Lit.int .i64 (A i)).wf = true
theorem open_ints {H : Type} {enc : TypeId × Value → H} {W : World} {base : Nat} {sp : Nat → Bool} {held : Bool} {v : Value} {x : DataW H} {ps : List MemPlace} {r : Reach} {b0 : Nat}
    (hv : Value.okWide Try.prog W r b0 47 v) (h : DataW.Trod enc Try.prog W base sp held 47 v x ps) :
    ∃ (p : Option Addr) (n c : Nat) (A : Nat → Int), v = .slice p n c ∧ n ≤ maxLen ∧ IsInts W p n A := by
  obtain ⟨a', l', c', rfl⟩ := okWide_slice Try.underlying47 hv
  obtain ⟨fuel, hf⟩ := h
  rcases Go.Deep.open_slice Try.underlying47 hf with ⟨e, _⟩ | ⟨a, len, cap, m, k, D, Pl, e, hb, hl, hm, hmm, hx, hel⟩
  · have e' : Value.slice a' l' c' = .slice none 0 0 := (List.cons.inj (show [Value.slice a' l' c'] = [.slice none 0 0] from e)).1
    exact ⟨none, 0, 0, fun _ => 0, e', by omega, fun i hi => absurd hi (Nat.not_lt_zero _)⟩
  · have e' : Value.slice a' l' c' = .slice (some a) len cap := (List.cons.inj (show [Value.slice a' l' c'] = [.slice (some a) len cap] from e)).1
    have hlm : len ≤ m := by rw [hmm]; split <;> omega
    rw [e']
    have each : ∀ i, i < len → ∃ q : Int, a.spot = none ∧ a.block < W.heap.size ∧ W.cell? ⟨a.block, a.off + i, none⟩ = some (.int .i64 q) ∧ (Lit.int .i64 q).wf = true := fun i hi => by
      obtain ⟨cs', h1, h2⟩ := hel i (by omega)
      obtain ⟨c2', h3, _⟩ := hel 0 (by omega)
      rw [cellsI] at h1 h3
      obtain ⟨_, hlen, hcell⟩ := World.cells?_some h1
      obtain ⟨_, hlen3, hcell3⟩ := World.cells?_some h3
      have hspot : a.spot = none := by
        have := hcell3 0 (by omega)
        simpa [Addr.add] using World.cell?_spot (this.trans (List.getElem?_eq_getElem (by omega)))
      obtain ⟨q1, e1, _, w1⟩ := DataW.trod_int Try.underlying3 h2
      have ad : (a.add (i * 1)).add 0 = ⟨a.block, a.off + i, none⟩ := by
        rw [Go.Deep.add_add]
        unfold Addr.add
        by_cases c : i * 1 + 0 = 0
        · rw [if_pos c]
          have : i = 0 := by omega
          obtain ⟨bb, oo, ss⟩ := a
          simp only at hspot
          subst hspot
          simp [this]
        · rw [if_neg c]; simp; try omega
      have c1 := hcell 0 (by omega)
      rw [ad, e1] at c1
      have c2 : W.cell? ⟨a.block, a.off + i, none⟩ = some (.int .i64 q1) := c1
      exact ⟨q1, hspot, (by have := lt_of_cell c2; exact this), c2, w1⟩
    obtain ⟨q, hq⟩ := Go.Deep.choose_lt each
    refine ⟨some a, len, cap, q, rfl, by omega, fun i hi => ?_⟩
    obtain ⟨s, l, c1, w1⟩ := hq i hi
    obtain ⟨bb, oo, ss⟩ := a
    simp only at s
    subst s
    exact ⟨bb, oo, rfl, l, c1, w1⟩
/-- the law's own map, counted, beside the tags -/
structure BesC (w W : World) (b n c : Nat) (f : Int → Option Int) : Prop where
  map : MapC W b n c f
  lo : w.heap.size + 3 ≤ b
theorem BesC.kp {w W W' : World} {b n c : Nat} {f : Int → Option Int} (h : BesC w W b n c f) (k : Kp (w.heap.size + 2) w.heap.size (w.heap.size + 1) W W') : BesC w W' b n c f := by
  obtain ⟨m, lo⟩ := h
  exact ⟨m.block (k.block b m.lt (by omega) (by omega) (by omega)), lo⟩
theorem BesC.below {w W W' : World} {b n c : Nat} {f : Int → Option Int} (h : BesC w W b n c f) (k : Below W.heap.size W W') : BesC w W' b n c f := by
  obtain ⟨m, lo⟩ := h
  exact ⟨m.block (k.block b m.lt), lo⟩
theorem BesC.set {w W : World} {b n c : Nat} {f : Int → Option Int} (h : BesC w W b n c f) (hn : n < maxLen) {k v : Int} (hk : (Lit.int .i64 k).wf = true) (hv : (Lit.int .i64 v).wf = true) : ∃ W', (Instr.mapUpdate 44 (.map (some b)) (.int .i64 k) (.int .i64 v)).run Try.prog W = .ok () W' ∧ BesC w W' b (n + 1) (if (f k).isSome = true then c else c + 1) (setF f k (some v)) ∧ W.grownBy W' (some b) := by
  obtain ⟨m, lo⟩ := h
  obtain ⟨W', r, m', g⟩ := m.set hn hk hv
  exact ⟨W', r, ⟨m', lo⟩, g⟩
theorem own_grown {w W W' : World} {b n : Nat} {S : Tg} (h : Own w W (w.heap.size + 2) w.heap.size (w.heap.size + 1) n S) (g : W.grownBy W' (some b)) (lo : w.heap.size + 3 ≤ b) : Own w W' (w.heap.size + 2) w.heap.size (w.heap.size + 1) n S := by
  obtain ⟨h1, h2, h3⟩ := h
  refine ⟨h1.kept (fun k hk hq => g.block k hk (by simp; omega)), ?_, h3⟩
  exact h2.trans ⟨g.os, g.tape, g.output, g.size, fun k hk => g.block k (Nat.lt_of_lt_of_le hk h2.size) (by simp; omega)⟩
theorem grown_cell {W W' : World} {b k i : Nat} (g : W.grownBy W' (some b)) (l : k < W.heap.size) (ne : k ≠ b) : W'.cell? ⟨k, i, none⟩ = W.cell? ⟨k, i, none⟩ := World.cell?_of_block (g.block k l (by simpa using ne))
end Go.Proofs.Ytbdakoijhpobdaa
