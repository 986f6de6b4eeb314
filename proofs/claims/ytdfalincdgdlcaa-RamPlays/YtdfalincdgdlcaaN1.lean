/- Ranges that come in; a list of at most 70; memories that are refused. -/
import Derived.Test.YtdfalincdgdlcaaR16
import Derived.WalkKit
import Derived.ProofKit
import Derived.OpenShut
import Derived.Deep.Light
import Derived.Deep.MidRow
import Derived.Deep.RegionHeld3
import Derived.Deep.DrawnRows
import Derived.Handy
import Derived.Deep.Slices
import Derived.Lib.SmallJoins
import Derived.Carry
import Derived.Laws.MakeOwn
import Derived.MapKept
namespace Go.Proofs.Ytdfalincdgdlcaa
open Go.ChangeShapes Go.WideShapes Go.ChangeAt Go.RowKit Go.Maps
set_option linter.unusedSimpArgs false
set_option linter.unusedVariables false

/-- ranges that come in -/
def IsRgs (w : World) (p : Option Addr) (n : Nat) (F : Nat → Int × Int) : Prop := ∀ i, i < n → ∃ b o, p = some ⟨b, o, none⟩ ∧ b < w.heap.size ∧ w.cell? ⟨b, o + i * 2, none⟩ = some (.int .i64 (F i).1) ∧ w.cell? ⟨b, o + i * 2 + 1, none⟩ = some (.int .i64 (F i).2)
theorem cellsR : Try.prog.cellsOf 51 = 2 := by kernel_rfl
theorem cellsI : Try.prog.cellsOf 3 = 1 := by kernel_rfl
theorem lt_of_cell {w : World} {a : Addr} {v : Value} (h : w.cell? a = some v) : a.block < w.heap.size := by
  unfold World.cell? at h
  by_cases c : a.block < w.heap.size
  · exact c
  · rw [Array.getElem?_eq_none (by omega)] at h
    simp at h
theorem open_rgs {H : Type} {enc : TypeId × Value → H} {W : World} {base : Nat} {sp : Nat → Bool} {held : Bool} {v : Value} {x : DataW H} {ps : List MemPlace} {r : Reach} {b0 : Nat}
    (hv : Value.okWide Try.prog W r b0 22 v) (h : DataW.Trod enc Try.prog W base sp held 22 v x ps) :
    ∃ (p : Option Addr) (n c : Nat) (F : Nat → Int × Int), v = .slice p n c ∧ n ≤ maxLen ∧ n ≤ c ∧ IsRgs W p n F := by
  obtain ⟨a', l', c', rfl⟩ := okWide_slice Try.underlying22 hv
  obtain ⟨fuel, hf⟩ := h
  rcases Go.Deep.open_slice Try.underlying22 hf with ⟨e, _⟩ | ⟨a, len, cap, m, k, D, Pl, e, hb, hl, hm, hmm, hx, hel⟩
  · have e' : Value.slice a' l' c' = .slice none 0 0 := (List.cons.inj (show [Value.slice a' l' c'] = [.slice none 0 0] from e)).1
    exact ⟨none, 0, 0, fun _ => (0, 0), e', by omega, by omega, fun i hi => absurd hi (Nat.not_lt_zero _)⟩
  · have e' : Value.slice a' l' c' = .slice (some a) len cap := (List.cons.inj (show [Value.slice a' l' c'] = [.slice (some a) len cap] from e)).1
    have hlm : len ≤ m := by rw [hmm]; split <;> omega
    rw [e']
    have each : ∀ i, i < len → ∃ q : Int × Int, a.spot = none ∧ a.block < W.heap.size ∧ W.cell? ⟨a.block, a.off + i * 2, none⟩ = some (.int .i64 q.1) ∧ W.cell? ⟨a.block, a.off + i * 2 + 1, none⟩ = some (.int .i64 q.2) := fun i hi => by
      obtain ⟨cs', h1, h2⟩ := hel i (by omega)
      obtain ⟨c2', h3, _⟩ := hel 0 (by omega)
      rw [cellsR] at h1 h3
      obtain ⟨_, hlen, hcell⟩ := World.cells?_some h1
      obtain ⟨_, hlen3, hcell3⟩ := World.cells?_some h3
      have hspot : a.spot = none := by
        have := hcell3 0 (by omega)
        simpa [Addr.add] using World.cell?_spot (this.trans (List.getElem?_eq_getElem (by omega)))
      obtain ⟨xs, kk, _, _, _, hxl, hfld⟩ := DataW.trod_struct Try.underlying51 h2
      have hg : ∀ j, j < 2 → ∃ y, xs[j]? = some y := fun j hj => ⟨_, List.getElem?_eq_getElem (by rw [hxl]; exact hj)⟩
      obtain ⟨y0, k0⟩ := hg 0 (by omega)
      obtain ⟨y1, k1⟩ := hg 1 (by omega)
      obtain ⟨a0, e0, _, _⟩ := DataW.trod_int Try.underlying3 ((hfld 0 _ rfl).trans k0)
      obtain ⟨a1, e1, _, _⟩ := DataW.trod_int Try.underlying3 ((hfld 1 _ rfl).trans k1)
      have g : ∀ j z, (cs'.drop j).take (Try.prog.cellsOf 3) = [z] → cs'[j]? = some z := fun j z hz => by
        rw [cellsI] at hz
        have : ((cs'.drop j).take 1)[0]? = some z := by rw [hz]; rfl
        rw [List.getElem?_take, if_pos (by omega), List.getElem?_drop] at this
        simpa using this
      have ad : ∀ j, (a.add (i * 2)).add j = ⟨a.block, a.off + i * 2 + j, none⟩ := fun j => by
        rw [Go.Deep.add_add]
        unfold Addr.add
        by_cases c : i * 2 + j = 0
        · rw [if_pos c]
          have : i * 2 = 0 ∧ j = 0 := by omega
          obtain ⟨bb, oo, ss⟩ := a
          simp only at hspot
          subst hspot
          simp [this.1, this.2]
        · rw [if_neg c]; simp; try omega
      have c0 := hcell 0 (by omega)
      have c1 := hcell 1 (by omega)
      rw [ad, g 0 _ e0] at c0
      rw [ad, g 1 _ e1] at c1
      exact ⟨(a0, a1), hspot, (by have := lt_of_cell c0; exact this), c0, c1⟩
    obtain ⟨q, hq⟩ := Go.Deep.choose_lt each
    refine ⟨some a, len, cap, q, rfl, by omega, hl, fun i hi => ?_⟩
    obtain ⟨s, l, c0, c1⟩ := hq i hi
    obtain ⟨bb, oo, ss⟩ := a
    simp only at s
    subst s
    exact ⟨bb, oo, rfl, l, c0, c1⟩
theorem args_stay {H : Type} {enc : TypeId × Value → H} {P : Program} {W W' : World} (hl : laidOutB P = true) (hb : Below W.heap.size W W') :
    ∀ {ts : List TypeId} {vs : List Value} {ds : List (DataW H)} {ps : List MemPlace}, (ts.all fun t => P.readableRec t && decide (t < P.types.size)) = true →
      DataW.TrodAll enc P W 0 (fun _ => true) true ts vs ds ps → (∀ x ∈ ps, x.block < W.heap.size) → DataW.TrodAll enc P W' 0 (fun b => decide (b < W.heap.size)) true ts vs ds ps
  | [], vs, ds, ps, _, h, _ => by
    obtain ⟨rfl, rfl, rfl⟩ := trodAll_nil h
    exact trodAll_mk0
  | t :: ts, vs, ds, ps, ha, h, hp => by
    obtain ⟨v, vs0, d, ds0, p, q, rfl, rfl, rfl, h0, r0⟩ := trodAll_cons h
    simp only [List.all_cons, Bool.and_eq_true, decide_eq_true_eq] at ha
    exact trodAll_cons_mk (Below.trod hl ha.1.1 ha.1.2 h0 hb (fun x hx => hp x (List.mem_append_left _ hx)))
      (args_stay hl hb (by simpa using ha.2) r0 (fun x hx => hp x (List.mem_append_right _ hx)))
theorem below_none {w w' : World} (h : w.grownBy w' none) : Below w.heap.size w w' := ⟨h.os, h.tape, h.output, h.size, fun k hk => h.block k hk (by simp)⟩
def firstOf (F : Nat → Int × Int) (n : Nat) : List (Int × Int) := (List.range n).map F
theorem first_len (F : Nat → Int × Int) (n : Nat) : (firstOf F n).length = n := by simp [firstOf]
theorem first_get (F : Nat → Int × Int) (n j : Nat) (h : j < n) : (firstOf F n).getD j (0, 0) = F j := by
  rw [List.getD_eq_getElem?_getD, List.getElem?_eq_getElem (by rw [first_len]; exact h)]
  simp [firstOf]
theorem rgs_cells {w : World} {b o n m : Nat} {F : Nat → Int × Int} (h : IsRgs w (some ⟨b, o, none⟩) n F) (hm : m ≤ n) : ∀ j u, (cellsOf (firstOf F m))[j]? = some u → w.cell? ((⟨b, o, none⟩ : Addr).add j) = some u := by
  intro j u hu
  have hj : j < (firstOf F m).length * 2 := by have := (List.getElem?_eq_some_iff.1 hu).1; rw [cellsOf_len] at this; exact this
  have hj2 := hj
  rw [first_len] at hj2
  rw [cellsOf_get _ hj, first_get F m (j / 2) (by omega)] at hu
  obtain ⟨b', o', e, _, c0, c1⟩ := h (j / 2) (by omega)
  cases e
  have ad : (⟨b, o, none⟩ : Addr).add j = ⟨b, o + j, none⟩ := by unfold Addr.add; split <;> simp_all
  rw [ad]
  by_cases c : j % 2 = 0
  · rw [if_pos c] at hu; cases hu
    rw [show o + j = o + j / 2 * 2 by omega]; exact c0
  · rw [if_neg c] at hu; cases hu
    rw [show o + j = o + j / 2 * 2 + 1 by omega]; exact c1
theorem own_new (w : World) (o : Obj) : (w.alloc o).heap[w.heap.size]? = some o := (MapKept.heap_alloc w o).1
set_option maxHeartbeats 1000000 in
theorem few_short (b o n c : Nat) (F : Nat → Int × Int) (w : World) (h : IsRgs w (some ⟨b, o, none⟩) n F) (n0 : 0 < n) (nc : n ≤ c) (n9 : n ≤ maxLen) (hn : n ≤ 70) :
    Calls Try.prog 4 #[.slice (some ⟨b, o, none⟩) n c] w fun e w' => ∃ g cap, e = .returned (.slice (some ⟨g, 0, none⟩) (firstOf F (n)).length cap) ∧ w.heap.size ≤ g ∧ g < w'.heap.size ∧ HolesAt w' g (firstOf F (n)) ∧ Below w.heap.size w w' := by
  have hlb : b < w.heap.size := by obtain ⟨b', o', e, l, _⟩ := h 0 n0; cases e; exact l
  cases hq : Try.prog.info? 51 with
  | none => have hri := range_info; simp [hq] at hri
  | some i0 =>
  have hri := range_info
  rw [hq] at hri
  have hi := hq
  clear hq
  simp at hri
  obtain ⟨hz0, hz1, hz2⟩ := hri
  have L : Hid ((firstOf F (n)).length = n) := first_len F (n)
  have OW : Hid ((w.alloc (.cells #[] 51)).ownsRow w.heap.size 51 2 (.slice (some ⟨w.heap.size, 0, none⟩) 0 0) 0 []) := ⟨rfl, Or.inr ⟨w.heap.size, 0, #[], rfl, by omega, own_new w _, by omega, by omega, rfl, rfl⟩⟩
  have NW : Hid (∀ j u, (cellsOf (firstOf F (n)))[j]? = some u → (w.alloc (.cells #[] 51)).cell? ((⟨b, o, none⟩ : Addr).add j) = some u) := fun j u hu => by
    have h1 := rgs_cells h (m := n) (by omega) j u hu
    have hl : ((⟨b, o, none⟩ : Addr).add j).block < w.heap.size := lt_of_cell h1
    exact (World.cell?_alloc_lt _ _ _ hl).trans h1
  have ON : Hid (∀ x ∈ cellsOf (firstOf F (n)), x.oneCell' = true) := cellsOf_one _
  have LL : Hid ((cellsOf (firstOf F (n))).length = (n) * 2) := by show _ = _; rw [cellsOf_len, first_len]
  have HZ : Hid (w.heap.size ≤ (w.alloc (.cells #[] 51)).heap.size) := by show _ ≤ _; rw [World.size_alloc]; omega
  have MX : Hid (0 + (n) ≤ maxLen) := by show _ ≤ _; omega
  have BY : Hid ((0 + (n)) * 16 ≤ 140737488355328) := by show _ ≤ _; omega
  have B0 : Hid (Below w.heap.size w (w.alloc (.cells #[] 51))) := Go.Joins.below_alloc1 _ _
  have hd : decide (70 < (n : Int)) = false := by simp; omega
  go_enter Try.func4, Try.ntmps4
  go_wp2_with (at_builtin; refine wpList_append_own _ rfl _ _ 22 rfl w.heap.size 51 i0 (.agg #[.int .i64 0, .int .i64 0]) 2 16 Try.underlying22 hi hz0 hz1 hz2 rfl (by decide) (.slice (some ⟨w.heap.size, 0, none⟩) 0 0) 0 [] rfl OW.out ⟨b, o, none⟩ (n) c (cellsOf (firstOf F (n))) rfl LL.out NW.out ON.out MX.out BY.out HZ.out ?_; intro v1 a0 hown hg hnil)
  have O1 : Hid (a0.ownsRow w.heap.size 51 2 v1 (0 + (n)) ([] ++ cellsOf (firstOf F (n)))) := hown
  have B1 : Hid (Below w.heap.size w a0) := below_none (grown_over hg)
  clear hown hg hnil OW NW ON HZ MX BY
  go_wp2_with fail
  go_ret
  have hl := L.out
  have hr : a0.ownsRow w.heap.size 51 2 v1 (0 + (firstOf F (n)).length) ([] ++ cellsOf (firstOf F (n))) := by rw [hl]; exact O1.out
  obtain ⟨g, cap, rfl, k1, k2, k3⟩ := row_cells (by rw [hl]; omega) hr
  exact ⟨g, cap, rfl, k1, k2, holes_cells k3, B1.out⟩
set_option maxHeartbeats 1000000 in
theorem few_long (b o n c : Nat) (F : Nat → Int × Int) (w : World) (h : IsRgs w (some ⟨b, o, none⟩) n F) (n0 : 0 < n) (nc : n ≤ c) (n9 : n ≤ maxLen) (hn : 70 < n) :
    Calls Try.prog 4 #[.slice (some ⟨b, o, none⟩) n c] w fun e w' => ∃ g cap, e = .returned (.slice (some ⟨g, 0, none⟩) (firstOf F (70)).length cap) ∧ w.heap.size ≤ g ∧ g < w'.heap.size ∧ HolesAt w' g (firstOf F (70)) ∧ Below w.heap.size w w' := by
  have hlb : b < w.heap.size := by obtain ⟨b', o', e, l, _⟩ := h 0 n0; cases e; exact l
  cases hq : Try.prog.info? 51 with
  | none => have hri := range_info; simp [hq] at hri
  | some i0 =>
  have hri := range_info
  rw [hq] at hri
  have hi := hq
  clear hq
  simp at hri
  obtain ⟨hz0, hz1, hz2⟩ := hri
  have L : Hid ((firstOf F (70)).length = 70) := first_len F (70)
  have OW : Hid ((w.alloc (.cells #[] 51)).ownsRow w.heap.size 51 2 (.slice (some ⟨w.heap.size, 0, none⟩) 0 0) 0 []) := ⟨rfl, Or.inr ⟨w.heap.size, 0, #[], rfl, by omega, own_new w _, by omega, by omega, rfl, rfl⟩⟩
  have NW : Hid (∀ j u, (cellsOf (firstOf F (70)))[j]? = some u → (w.alloc (.cells #[] 51)).cell? ((⟨b, o, none⟩ : Addr).add j) = some u) := fun j u hu => by
    have h1 := rgs_cells h (m := 70) (by omega) j u hu
    have hl : ((⟨b, o, none⟩ : Addr).add j).block < w.heap.size := lt_of_cell h1
    exact (World.cell?_alloc_lt _ _ _ hl).trans h1
  have ON : Hid (∀ x ∈ cellsOf (firstOf F (70)), x.oneCell' = true) := cellsOf_one _
  have LL : Hid ((cellsOf (firstOf F (70))).length = (70) * 2) := by show _ = _; rw [cellsOf_len, first_len]
  have HZ : Hid (w.heap.size ≤ (w.alloc (.cells #[] 51)).heap.size) := by show _ ≤ _; rw [World.size_alloc]; omega
  have MX : Hid (0 + (70) ≤ maxLen) := by show _ ≤ _; omega
  have BY : Hid ((0 + (70)) * 16 ≤ 140737488355328) := by show _ ≤ _; omega
  have B0 : Hid (Below w.heap.size w (w.alloc (.cells #[] 51))) := Go.Joins.below_alloc1 _ _
  have hd : decide (70 < (n : Int)) = true := by simp; omega
  go_enter Try.func4, Try.ntmps4
  go_wp2_with (at_builtin; refine wpList_append_own _ rfl _ _ 22 rfl w.heap.size 51 i0 (.agg #[.int .i64 0, .int .i64 0]) 2 16 Try.underlying22 hi hz0 hz1 hz2 rfl (by decide) (.slice (some ⟨w.heap.size, 0, none⟩) 0 0) 0 [] rfl OW.out ⟨b, o, none⟩ (70) c (cellsOf (firstOf F (70))) rfl LL.out NW.out ON.out MX.out BY.out HZ.out ?_; intro v1 a0 hown hg hnil)
  have O1 : Hid (a0.ownsRow w.heap.size 51 2 v1 (0 + (70)) ([] ++ cellsOf (firstOf F (70)))) := hown
  have B1 : Hid (Below w.heap.size w a0) := below_none (grown_over hg)
  clear hown hg hnil OW NW ON HZ MX BY
  go_wp2_with fail
  go_ret
  have hl := L.out
  have hr : a0.ownsRow w.heap.size 51 2 v1 (0 + (firstOf F (70)).length) ([] ++ cellsOf (firstOf F (70))) := by rw [hl]; exact O1.out
  obtain ⟨g, cap, rfl, k1, k2, k3⟩ := row_cells (by rw [hl]; omega) hr
  exact ⟨g, cap, rfl, k1, k2, holes_cells k3, B1.out⟩
set_option maxHeartbeats 400000 in
theorem few_none (p : Option Addr) (c : Nat) (w : World) (hp : p = none ∨ ∃ a, p = some a) :
    Calls Try.prog 4 #[.slice p 0 c] w fun e w' => ∃ g cap, e = .returned (.slice (some ⟨g, 0, none⟩) 0 cap) ∧ w.heap.size ≤ g ∧ g < w'.heap.size ∧ Below w.heap.size w w' := by
  rcases hp with rfl | ⟨a, rfl⟩
  all_goals
    go_enter Try.func4, Try.ntmps4
    go_wp2
    go_ret
    exact ⟨_, _, rfl, by omega, by simp, Go.Joins.below_alloc1 _ _⟩
end Go.Proofs.Ytdfalincdgdlcaa
