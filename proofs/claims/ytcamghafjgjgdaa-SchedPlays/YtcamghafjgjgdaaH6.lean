/- The queue: awake; the calls that come in. -/
import Derived.Test.YtcamghafjgjgdaaH5
namespace Go.Proofs.Ytcamghafjgjgdaa
open Go.ChangeShapes Go.WideShapes Go.ChangeAt Go.RowKit Go.Maps
set_option linter.unusedSimpArgs false
set_option linter.unusedVariables false

set_option maxHeartbeats 1000000 in
theorem awake_any (w : World) : Calls Try.prog 9 #[] w fun e w' => e = .returned (.bool true) ∧ Below w.heap.size w w' := by
  have G0 : Good ⟨2, 0, []⟩ := fresh_good 2 (by omega) (by omega)
  have G1 : Good ⟨2, 0, [5]⟩ := G0.add 5
  have G2 : Good ⟨2, 0, [5, 7]⟩ := G1.add 7
  have G3 : Good ⟨2, 1, [5, 7]⟩ := G2.tck
  have N : Hid (Calls Try.prog 8 #[.int .i64 2] w fun e w' => e = .returned (.tuple #[.pointer (some ⟨w.heap.size, 0, none⟩), .int .i64 0]) ∧ Own w w' w.heap.size ⟨2, 0, []⟩) := new_ok 2 (by omega) (by omega) w
  have C1 : Hid (∀ W : World, IsQ W w.heap.size ⟨2, 0, []⟩ → Calls Try.prog 10 #[.pointer (some ⟨w.heap.size, 0, none⟩), .int .i64 5] W fun e w' => e = .returned (.int .i64 0) ∧ IsQ w' w.heap.size ⟨2, 0, [5]⟩ ∧ Kb w.heap.size W w') := fun W k => add_any _ ⟨2, 0, []⟩ 5 G0 W k
  have C2 : Hid (∀ W : World, IsQ W w.heap.size ⟨2, 0, [5]⟩ → Calls Try.prog 10 #[.pointer (some ⟨w.heap.size, 0, none⟩), .int .i64 7] W fun e w' => e = .returned (.int .i64 0) ∧ IsQ w' w.heap.size ⟨2, 0, [5, 7]⟩ ∧ Kb w.heap.size W w') := fun W k => add_any _ ⟨2, 0, [5]⟩ 7 G1 W k
  have C3 : Hid (∀ W : World, IsQ W w.heap.size ⟨2, 0, [5, 7]⟩ → Calls Try.prog 17 #[.pointer (some ⟨w.heap.size, 0, none⟩)] W fun e w' => e = .returned (.bool false) ∧ IsQ w' w.heap.size ⟨2, 1, [5, 7]⟩ ∧ Kb w.heap.size W w') := fun W k => tck_any _ ⟨2, 0, [5, 7]⟩ G2 W k
  have C4 : Hid (∀ W : World, IsQ W w.heap.size ⟨2, 1, [5, 7]⟩ → Calls Try.prog 17 #[.pointer (some ⟨w.heap.size, 0, none⟩)] W fun e w' => e = .returned (.bool true) ∧ IsQ w' w.heap.size ⟨2, 0, [7, 5]⟩ ∧ Kb w.heap.size W w') := fun W k => tck_any _ ⟨2, 1, [5, 7]⟩ G3 W k
  have C5 : Hid (∀ W : World, IsQ W w.heap.size ⟨2, 0, [7, 5]⟩ → Calls Try.prog 18 #[.pointer (some ⟨w.heap.size, 0, none⟩)] W fun e w' => e = .returned (.tuple #[.int .i64 7, .bool true]) ∧ Below W.heap.size W w') := fun W k => now_any _ ⟨2, 0, [7, 5]⟩ W k
  clear G0 G1 G2 G3
  go_enter Try.func9, Try.ntmps9
  go_wp2_with fail
  refine N.out.mono ?_
  rintro e u0 ⟨rfl, h0⟩
  have M0 : Hid (Own w u0 w.heap.size ⟨2, 0, []⟩) := h0
  clear h0 N
  go_wp2_with fail
  refine (C1.out _ M0.out.1).mono ?_
  rintro e u1 ⟨rfl, h1, h2⟩
  have M1 : Hid (Own w u1 w.heap.size ⟨2, 0, [5]⟩) := M0.out.next h1 h2
  clear h1 h2 M0
  go_wp2_with fail
  refine (C2.out _ M1.out.1).mono ?_
  rintro e u2 ⟨rfl, h1, h2⟩
  have M2 : Hid (Own w u2 w.heap.size ⟨2, 0, [5, 7]⟩) := M1.out.next h1 h2
  clear h1 h2 M1
  go_wp2_with fail
  refine (C3.out _ M2.out.1).mono ?_
  rintro e u3 ⟨rfl, h1, h2⟩
  have M3 : Hid (Own w u3 w.heap.size ⟨2, 1, [5, 7]⟩) := M2.out.next h1 h2
  clear h1 h2 M2
  go_wp2_with fail
  refine (C4.out _ M3.out.1).mono ?_
  rintro e u4 ⟨rfl, h1, h2⟩
  have M4 : Hid (Own w u4 w.heap.size ⟨2, 0, [7, 5]⟩) := M3.out.next h1 h2
  clear h1 h2 M3
  go_wp2_with fail
  refine (C5.out _ M4.out.1).mono ?_
  rintro e u5 ⟨rfl, hb⟩
  have B5 : Hid (Below w.heap.size w u5) := below_then M4.out.2.1 hb
  clear hb
  go_wp2_with fail
  go_ret
  exact ⟨rfl, B5.out⟩
theorem args_stay {H : Type} {enc : TypeId × Value → H} {P : Program} {W W' : World} (hl : laidOutB P = true) (hb : Below W.heap.size W W') :
    ∀ {ts : List TypeId} {vs : List Value} {ds : List (DataW H)} {ps : List MemPlace}, (ts.all fun t => P.readableRec t && decide (t < P.types.size)) = true →
      DataW.TrodAll enc P W 0 (fun _ => true) true ts vs ds ps → (∀ x ∈ ps, x.block < W.heap.size) → DataW.TrodAll enc P W' 0 (fun b => decide (b < W.heap.size)) true ts vs ds ps
  | [], vs, ds, ps, _, h, _ => by
    obtain ⟨rfl, rfl, rfl⟩ := trodAll_nil h
    exact trodAll_mk0
  | t :: ts, vs, ds, ps, ha, h, hp => by
    obtain ⟨v, vs0, d, ds0, p, q, rfl, rfl, rfl, h0, r0⟩ := trodAll_cons h
    simp only [List.all_cons, Bool.and_eq_true, decide_eq_true_eq] at ha
    exact trodAll_cons_mk (Below.trod hl ha.1.1 ha.1.2 h0 hb (fun x hx => hp x (List.mem_append_left _ hx)))
      (args_stay hl hb (by simpa using ha.2) r0 (fun x hx => hp x (List.mem_append_right _ hx)))
/-- a call that comes in -/
structure Ac where
  kind : Int
  sp : Int
def Ac.enc (a : Ac) : List Value := [.int .i64 a.kind, .int .i64 a.sp]
def Ac.zero : Ac := ⟨0, 0⟩
theorem cellsA : Try.prog.cellsOf 32 = 2 := by kernel_rfl
theorem cellsI : Try.prog.cellsOf 3 = 1 := by kernel_rfl
theorem lt_of_cell {w : World} {a : Addr} {v : Value} (h : w.cell? a = some v) : a.block < w.heap.size := by
  unfold World.cell? at h
  by_cases c : a.block < w.heap.size
  · exact c
  · rw [Array.getElem?_eq_none (by omega)] at h
    simp at h
def IsActs (w : World) (p : Option Addr) (n : Nat) (A : Nat → Ac) : Prop := ∀ i, i < n → ∃ b o, p = some ⟨b, o, none⟩ ∧ b < w.heap.size ∧ w.cell? ⟨b, o + i * 2, none⟩ = some (.int .i64 (A i).kind) ∧ w.cell? ⟨b, o + i * 2 + 1, none⟩ = some (.int .i64 (A i).sp) ∧ (Lit.int .i64 (A i).sp).wf = true
theorem open_acts {H : Type} {enc : TypeId × Value → H} {W : World} {base : Nat} {sp : Nat → Bool} {held : Bool} {v : Value} {x : DataW H} {ps : List MemPlace} {r : Reach} {b0 : Nat}
    (hv : Value.okWide Try.prog W r b0 22 v) (h : DataW.Trod enc Try.prog W base sp held 22 v x ps) :
    ∃ (p : Option Addr) (n c : Nat) (A : Nat → Ac), v = .slice p n c ∧ n ≤ maxLen ∧ IsActs W p n A := by
  obtain ⟨a', l', c', rfl⟩ := okWide_slice Try.underlying22 hv
  obtain ⟨fuel, hf⟩ := h
  rcases Go.Deep.open_slice Try.underlying22 hf with ⟨e, _⟩ | ⟨a, len, cap, m, k, D, Pl, e, hb, hl, hm, hmm, hx, hel⟩
  · have e' : Value.slice a' l' c' = .slice none 0 0 := (List.cons.inj (show [Value.slice a' l' c'] = [.slice none 0 0] from e)).1
    exact ⟨none, 0, 0, fun _ => Ac.zero, e', by omega, fun i hi => absurd hi (Nat.not_lt_zero _)⟩
  · have e' : Value.slice a' l' c' = .slice (some a) len cap := (List.cons.inj (show [Value.slice a' l' c'] = [.slice (some a) len cap] from e)).1
    have hlm : len ≤ m := by rw [hmm]; split <;> omega
    rw [e']
    have each : ∀ i, i < len → ∃ q : Ac, a.spot = none ∧ a.block < W.heap.size ∧ W.cell? ⟨a.block, a.off + i * 2, none⟩ = some (.int .i64 q.kind) ∧ W.cell? ⟨a.block, a.off + i * 2 + 1, none⟩ = some (.int .i64 q.sp) ∧ (Lit.int .i64 q.sp).wf = true := fun i hi => by
      obtain ⟨cs', h1, h2⟩ := hel i (by omega)
      obtain ⟨c2', h3, _⟩ := hel 0 (by omega)
      rw [cellsA] at h1 h3
      obtain ⟨_, hlen, hcell⟩ := World.cells?_some h1
      obtain ⟨_, hlen3, hcell3⟩ := World.cells?_some h3
      have hspot : a.spot = none := by
        have := hcell3 0 (by omega)
        simpa [Addr.add] using World.cell?_spot (this.trans (List.getElem?_eq_getElem (by omega)))
      obtain ⟨xs, nn, _, _, hl', hlen', hfld⟩ := DataW.trod_struct Try.underlying32 h2
      have hg : ∀ i, i < 2 → ∃ y, xs[i]? = some y := fun i hi => ⟨_, List.getElem?_eq_getElem (by rw [hlen']; exact hi)⟩
      obtain ⟨y0, k0⟩ := hg 0 (by omega)
      obtain ⟨y1, k1⟩ := hg 1 (by omega)
      obtain ⟨q0, e0, _, _⟩ := DataW.trod_int Try.underlying3 ((hfld 0 _ rfl).trans k0)
      obtain ⟨q1, e1, _, w1⟩ := DataW.trod_int Try.underlying3 ((hfld 1 _ rfl).trans k1)
      have g : ∀ j z (T : TypeId), Try.prog.cellsOf T = 1 → (cs'.drop j).take (Try.prog.cellsOf T) = [z] → cs'[j]? = some z := fun j z T hT hz => by
        rw [hT] at hz
        have : ((cs'.drop j).take 1)[0]? = some z := by rw [hz]; rfl
        rw [List.getElem?_take, if_pos (by omega), List.getElem?_drop] at this
        simpa using this
      have ad : ∀ j, (a.add (i * 2)).add j = ⟨a.block, a.off + i * 2 + j, none⟩ := fun j => by
        rw [Go.Deep.add_add]
        unfold Addr.add
        by_cases c : i * 2 + j = 0
        · rw [if_pos c]
          have : i * 2 = 0 ∧ j = 0 := by omega
          obtain ⟨bb, oo, ss⟩ := a
          simp only at hspot
          subst hspot
          simp [this.1, this.2]
        · rw [if_neg c]; simp; try omega
      have f0 : cs'[0]? = some (.int .i64 q0) := g 0 _ _ cellsI e0
      have f1 : cs'[1]? = some (.int .i64 q1) := g 1 _ _ cellsI e1
      have c0 := hcell 0 (by omega)
      have c1 := hcell 1 (by omega)
      rw [ad, f0] at c0
      rw [ad, f1] at c1
      exact ⟨⟨q0, q1⟩, hspot, (by have := lt_of_cell c0; exact this), c0, c1, w1⟩
    haveI : Inhabited Ac := ⟨Ac.zero⟩
    obtain ⟨q, hq⟩ := Go.Deep.choose_lt each
    refine ⟨some a, len, cap, q, rfl, by omega, fun i hi => ?_⟩
    obtain ⟨s, l, c0, c1, w1⟩ := hq i hi
    obtain ⟨bb, oo, ss⟩ := a
    simp only at s
    subst s
    exact ⟨bb, oo, rfl, l, c0, c1, w1⟩
end Go.Proofs.Ytcamghafjgjgdaa
