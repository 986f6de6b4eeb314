/- Entries that come in; the bytes that they lay. -/
import Derived.Test.YtaebihgegiddnaaDoorL1
import Derived.Deep.Slices
namespace Go.Proofs.YtaebihgegiddnaaDoor
open Go.ChangeShapes Go.WideShapes Go.ChangeAt Go.RowKit Go.Maps
set_option linter.unusedSimpArgs false
set_option linter.unusedVariables false
set_option maxRecDepth 8000

theorem cellsU : Tryd.prog.cellsOf 32 = 1 := by kernel_rfl
theorem lt_of_cell {w : World} {a : Addr} {v : Value} (h : w.cell? a = some v) : a.block < w.heap.size := by
  unfold World.cell? at h
  by_cases c : a.block < w.heap.size
  · exact c
  · rw [Array.getElem?_eq_none (by omega)] at h
    simp at h
theorem put_cells {H : Type} {enc : TypeId × Value → H} {W : World} {base : Nat} {sp : Nat → Bool} {held : Bool} {x : DataW H} {ps : List MemPlace} {fuel : Nat} {cs : List Value} (hf : DataW.trod enc Tryd.prog W base sp held fuel 69 cs = some (x, ps)) (hl : cs.length = 3) :
    ∃ (a0 : Int) (a1 : Int) (a2 : Int), cs = [.int .i64 a0, .int .i64 a1, .int .u64 a2] ∧ (Lit.int .i64 a0).wf = true ∧ (Lit.int .i64 a1).wf = true ∧ (Lit.int .u64 a2).wf = true ∧ True := by
  obtain ⟨c0, c1, c2, hcs⟩ : ∃ c0 c1 c2, cs = [c0, c1, c2] := by
    revert hl
    match cs with
    | [c0, c1, c2] => intro _; exact ⟨c0, c1, c2, rfl⟩
    | [] => intro q; cases q
    | [_] => intro q; cases q
    | [_, _] => intro q; cases q
    | _ :: _ :: _ :: _ :: _ => intro q; simp at q
  subst hcs
  obtain ⟨zs, m, _, _, jl, jlen, jf⟩ := DataW.trod_struct Tryd.underlying69 hf
  have jg : ∀ i, i < 3 → ∃ y, zs[i]? = some y := fun i hi => ⟨_, List.getElem?_eq_getElem (by rw [jlen]; exact hi)⟩
  obtain ⟨⟨z0a, z0b⟩, m0⟩ := jg 0 (by omega)
  obtain ⟨b0, e0, _, w0⟩ := DataW.trod_int Tryd.underlying3 ((jf 0 _ rfl).trans m0)
  obtain rfl := cell_of cellsI e0 (c := c0) (by first | rfl | (rw [cellsI]; rfl))
  obtain ⟨⟨z1a, z1b⟩, m1⟩ := jg 1 (by omega)
  obtain ⟨b1, e1, _, w1⟩ := DataW.trod_int Tryd.underlying3 ((jf 1 _ rfl).trans m1)
  obtain rfl := cell_of cellsI e1 (c := c1) (by first | rfl | (rw [cellsI]; rfl))
  obtain ⟨⟨z2a, z2b⟩, m2⟩ := jg 2 (by omega)
  obtain ⟨b2, e2, _, w2⟩ := DataW.trod_int Tryd.underlying32 ((jf 2 _ rfl).trans m2)
  obtain rfl := cell_of cellsU e2 (c := c2) (by first | rfl | (rw [cellsU]; rfl))
  exact ⟨_, _, _, rfl, w0, w1, w2, trivial⟩
theorem open_puts_cells : Tryd.prog.cellsOf 69 = 3 := by kernel_rfl
/-- an entry that comes in -/
structure Pt where
  fr : Int
  at' : Int
  x : Int
def IsPuts (w : World) (p : Option Addr) (n : Nat) (A : Nat → Pt) : Prop := ∀ i, i < n → ∃ b o, p = some ⟨b, o, none⟩ ∧ b < w.heap.size ∧ w.cell? ⟨b, o + i * 3 + 0, none⟩ = some (.int .i64 (A i).fr) ∧ w.cell? ⟨b, o + i * 3 + 1, none⟩ = some (.int .i64 (A i).at') ∧ w.cell? ⟨b, o + i * 3 + 2, none⟩ = some (.int .u64 (A i).x) ∧ (Lit.int .u64 (A i).x).wf = true
theorem open_puts {H : Type} {enc : TypeId × Value → H} {W : World} {base : Nat} {sp : Nat → Bool} {held : Bool} {v : Value} {x : DataW H} {ps : List MemPlace} {r : Reach} {b0 : Nat}
    (hv : Value.okWide Tryd.prog W r b0 22 v) (h : DataW.Trod enc Tryd.prog W base sp held 22 v x ps) :
    ∃ (p : Option Addr) (n c : Nat) (A : Nat → Pt), v = .slice p n c ∧ n ≤ maxLen ∧ IsPuts W p n A := by
  obtain ⟨a', l', c', rfl⟩ := okWide_slice Tryd.underlying22 hv
  obtain ⟨fuel, hf⟩ := h
  rcases Go.Deep.open_slice Tryd.underlying22 hf with ⟨e, _⟩ | ⟨a, len, cap, m, k, D, Pl, e, hb, hl, hm, hmm, hx, hel⟩
  · have e' : Value.slice a' l' c' = .slice none 0 0 := (List.cons.inj (show [Value.slice a' l' c'] = [.slice none 0 0] from e)).1
    exact ⟨none, 0, 0, fun _ => ⟨0, 0, 0⟩, e', by omega, fun i hi => absurd hi (Nat.not_lt_zero _)⟩
  · have e' : Value.slice a' l' c' = .slice (some a) len cap := (List.cons.inj (show [Value.slice a' l' c'] = [.slice (some a) len cap] from e)).1
    have hlm : len ≤ m := by rw [hmm]; split <;> omega
    rw [e']
    have each : ∀ i, i < len → ∃ q : Pt, a.spot = none ∧ a.block < W.heap.size ∧ W.cell? ⟨a.block, a.off + i * 3 + 0, none⟩ = some (.int .i64 q.fr) ∧ W.cell? ⟨a.block, a.off + i * 3 + 1, none⟩ = some (.int .i64 q.at') ∧ W.cell? ⟨a.block, a.off + i * 3 + 2, none⟩ = some (.int .u64 q.x) ∧ (Lit.int .u64 q.x).wf = true := fun i hi => by
      obtain ⟨cs', h1, h2⟩ := hel i (by omega)
      obtain ⟨c2', h3, _⟩ := hel 0 (by omega)
      rw [open_puts_cells] at h1 h3
      obtain ⟨_, hlen, hcell⟩ := World.cells?_some h1
      obtain ⟨_, hlen3, hcell3⟩ := World.cells?_some h3
      have hspot : a.spot = none := by
        have := hcell3 0 (by omega)
        simpa [Addr.add] using World.cell?_spot (this.trans (List.getElem?_eq_getElem (by omega)))
      obtain ⟨a0, a1, a2, ecs, w0, w1, w2, _⟩ := put_cells h2 (by omega)
      have ad : ∀ j, (a.add (i * 3)).add j = ⟨a.block, a.off + i * 3 + j, none⟩ := fun j => by
        rw [Go.Deep.add_add]
        unfold Addr.add
        by_cases c : i * 3 + j = 0
        · rw [if_pos c]
          have : i * 3 = 0 ∧ j = 0 := by omega
          obtain ⟨bb, oo, ss⟩ := a
          simp only at hspot
          subst hspot
          simp [this.1, this.2]
        · rw [if_neg c]; simp; try omega
      have k0 := hcell 0 (by omega)
      rw [ad, ecs] at k0
      have k1 := hcell 1 (by omega)
      rw [ad, ecs] at k1
      have k2 := hcell 2 (by omega)
      rw [ad, ecs] at k2
      exact ⟨⟨a0, a1, a2⟩, hspot, (lt_of_cell k0 : _), k0, k1, k2, w2⟩
    haveI : Inhabited Pt := ⟨⟨0, 0, 0⟩⟩
    obtain ⟨q, hq⟩ := Go.Deep.choose_lt each
    refine ⟨some a, len, cap, q, rfl, by omega, fun i hi => ?_⟩
    have := hq i hi
    obtain ⟨bb, oo, ss⟩ := a
    obtain ⟨s, l, rest⟩ := this
    simp only at s
    subst s
    exact ⟨bb, oo, rfl, l, rest⟩

abbrev Has8 : Int → Bool := hasH 8 [(7, 8)]
/-- is an entry laid? -/
def Pt.ok (p : Pt) : Prop := (0 ≤ p.fr ∧ p.fr ≤ 6) ∧ (0 ≤ p.at' ∧ p.at' ≤ 511)
instance (p : Pt) : Decidable p.ok := by unfold Pt.ok; infer_instance
/-- the bytes behind k entries -/
def layM (A : Nat → Pt) : Nat → Int → Int
  | 0 => fun _ => 0
  | k + 1 => if (A k).ok then mset (layM A k) ((A k).fr * 4096 + 8 * (A k).at') 8 (A k).x else layM A k
theorem has8 (k : Int) : Has8 k = decide (0 ≤ k ∧ k < 7) := by
  unfold Has8 hasH hasF inH
  simp only [List.any_cons, List.any_nil, Bool.or_false]
  by_cases h : 0 ≤ k ∧ k < 7
  · rw [decide_eq_true h]; simp; omega
  · rw [decide_eq_false h]; simp; omega
theorem chk_lay {f a : Int} (hf : 0 ≤ f ∧ f ≤ 7) (ha : 0 ≤ a ∧ a ≤ 511) : chkG Has8 (f * 4096 + 8 * a) 8 = if f = 7 then 2 else 0 := by
  unfold chkG
  rw [if_pos (by omega), show (f * 4096 + 8 * a) / 4096 = f by omega, show (f * 4096 + 8 * a + 8 - 1) / 4096 = f by omega, has8]
  by_cases h : f = 7
  · rw [if_pos h, if_neg (by simp; omega)]
  · rw [if_neg h, if_pos (by simp; omega)]
end Go.Proofs.YtaebihgegiddnaaDoor
