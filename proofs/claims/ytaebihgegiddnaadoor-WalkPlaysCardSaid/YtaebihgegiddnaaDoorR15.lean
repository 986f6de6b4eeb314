/- The contract of slices.Clone at a list of ranges. -/
import Derived.Test.YtaebihgegiddnaaDoorR14
import Derived.OwnWalk
namespace Go.Proofs.YtaebihgegiddnaaDoor
open Go.ChangeShapes Go.WideShapes Go.ChangeAt Go.RowKit Go.Maps
set_option linter.unusedSimpArgs false
set_option linter.unusedVariables false
set_option maxRecDepth 8000

theorem range_info : (Tryd.prog.info? 67).map (fun i => (i.zero, i.size, i.bytes)) = some (some (.agg #[.int .i64 0, .int .i64 0]), 2, 16) := by kernel_rfl
/-- the cells of a list of ranges -/
def cellsOf (hs : List (Int × Int)) : List Value := (List.range (hs.length * 2)).map fun j => if j % 2 = 0 then .int .i64 (hs.getD (j / 2) (0, 0)).1 else .int .i64 (hs.getD (j / 2) (0, 0)).2
theorem cellsOf_len (hs : List (Int × Int)) : (cellsOf hs).length = hs.length * 2 := by simp [cellsOf]
theorem cellsOf_get (hs : List (Int × Int)) {j : Nat} (h : j < hs.length * 2) : (cellsOf hs)[j]? = some (if j % 2 = 0 then .int .i64 (hs.getD (j / 2) (0, 0)).1 else .int .i64 (hs.getD (j / 2) (0, 0)).2) := by
  simp only [cellsOf, List.getElem?_map, List.getElem?_range h, Option.map_some]
theorem cells_holes {w : World} {hb : Nat} {hs : List (Int × Int)} (h : HolesAt w hb hs) {j : Nat} {u : Value} (hu : (cellsOf hs)[j]? = some u) : w.cell? ⟨hb, j, none⟩ = some u := by
  have hj : j < hs.length * 2 := by have := (List.getElem?_eq_some_iff.1 hu).1; rw [cellsOf_len] at this; exact this
  rw [cellsOf_get hs hj] at hu
  have hd : hs[j / 2]? = some (hs.getD (j / 2) (0, 0)) := by
    rw [List.getD_eq_getElem?_getD, List.getElem?_eq_getElem (show j / 2 < hs.length by omega)]; rfl
  have := h _ _ hd
  by_cases e : j % 2 = 0
  · rw [if_pos e] at hu; cases hu
    have h1 := this.1
    rw [show j / 2 * 2 = j by omega] at h1; exact h1
  · rw [if_neg e] at hu; cases hu
    have h1 := this.2
    rw [show j / 2 * 2 + 1 = j by omega] at h1; exact h1
theorem holes_cells {w : World} {hb : Nat} {hs : List (Int × Int)} (h : ∀ j u, (cellsOf hs)[j]? = some u → w.cell? ⟨hb, j, none⟩ = some u) : HolesAt w hb hs := by
  intro j x hx
  have hj : j < hs.length := (List.getElem?_eq_some_iff.1 hx).1
  have hd : hs.getD j (0, 0) = x := by rw [List.getD_eq_getElem?_getD, hx]; rfl
  refine ⟨h (j * 2) _ ?_, h (j * 2 + 1) _ ?_⟩
  · rw [cellsOf_get hs (by omega), if_pos (by omega), show j * 2 / 2 = j by omega, hd]
  · rw [cellsOf_get hs (by omega), if_neg (by omega), show (j * 2 + 1) / 2 = j by omega, hd]
theorem cellsOf_one (hs : List (Int × Int)) : ∀ u ∈ cellsOf hs, u.oneCell' = true := by
  intro u hu
  simp only [cellsOf, List.mem_map] at hu
  obtain ⟨j, _, rfl⟩ := hu
  split <;> rfl

/-- the cells of a row that is owned -/
theorem row_cells {w : World} {B e : Nat} {v : Value} {hs : List (Int × Int)} (l0 : 0 < hs.length) (h : w.ownsRow B e 2 v (0 + hs.length) ([] ++ cellsOf hs)) :
    ∃ g cap, v = .slice (some ⟨g, 0, none⟩) hs.length cap ∧ B ≤ g ∧ g < w.heap.size ∧ ∀ j u, (cellsOf hs)[j]? = some u → w.cell? ⟨g, j, none⟩ = some u := by
  obtain ⟨_, h⟩ := h
  rcases h with ⟨_, h⟩ | ⟨g, cap, cur, hv, hB, hh, hn, hc, hs', ht⟩
  · omega
  · refine ⟨g, cap, by rw [hv, Nat.zero_add], hB, (Array.getElem?_eq_some_iff.1 hh).1, ?_⟩
    intro j u hu
    rw [List.nil_append] at ht
    rw [← ht] at hu
    have hj : j < (0 + hs.length) * 2 := by
      have := (List.getElem?_eq_some_iff.1 hu).1
      rw [List.length_take] at this; omega
    rw [List.getElem?_take_of_lt hj, Array.getElem?_toList] at hu
    rw [cell_of_row w g j cur e (0, 0) hh]; exact hu
theorem grown_over {w w2 : World} {o : Obj} (h : (w.alloc o).grownBy w2 (some w.heap.size)) : w.grownBy w2 none :=
  ⟨h.os, h.tape, h.output, by have := h.size; rw [World.size_alloc] at this; omega, fun k hk _ => by
    rw [h.block k (by rw [World.size_alloc]; omega) (by intro e; cases e; omega)]; exact Below.heap_alloc w _ k hk⟩

set_option maxHeartbeats 400000 in
theorem clone_some (hb cap : Nat) (hs : List (Int × Int)) (w : World) (l0 : 0 < hs.length) (l1 : hs.length ≤ 64) (hh : HolesAt w hb hs) (hhb : hb < w.heap.size) :
    Calls Tryd.prog 38 #[.slice (some ⟨hb, 0, none⟩) hs.length cap] w fun e w' => ∃ g cap', e = .returned (.slice (some ⟨g, 0, none⟩) hs.length cap') ∧ w.heap.size ≤ g ∧ g < w'.heap.size ∧ HolesAt w' g hs ∧ w.grownBy w' none := by
  have he : ∀ (m c : Nat) (W : World), (binOp .eql 25 (.slice (some ⟨hb, 0, none⟩) m c) (.slice none 0 0)).run Tryd.prog W = .ok (.bool false) W := fun m c W => by kernel_rfl
  obtain ⟨i0, hi, hz0, hz1, hz2⟩ := info_parts range_info
  have hall : ∀ (o : Obj) j u, (cellsOf hs)[j]? = some u → (w.alloc o).cell? ((⟨hb, 0, none⟩ : Addr).add j) = some u := by
    intro o j u hu
    have hadd : (⟨hb, 0, none⟩ : Addr).add j = ⟨hb, j, none⟩ := by unfold Addr.add; split <;> simp_all
    rw [hadd, World.cell?_alloc_past _ _ _ hhb]; exact cells_holes hh hu
  have HALL : Hid (∀ (o : Obj) j u, (cellsOf hs)[j]? = some u → (w.alloc o).cell? ((⟨hb, 0, none⟩ : Addr).add j) = some u) := hall
  clear hall hh
  have HOWN : Hid ((w.alloc (.cells #[] 67)).ownsRow w.heap.size 67 2 (.slice (some ⟨w.heap.size, 0, none⟩) 0 0) 0 []) :=
    ⟨rfl, Or.inr ⟨w.heap.size, 0, #[], rfl, Nat.le_refl _, (MapKept.heap_alloc w _).1, Nat.le_refl _, Nat.zero_le _, rfl, rfl⟩⟩
  have HMX : Hid (0 + hs.length ≤ maxLen ∧ (0 + hs.length) * 16 ≤ 140737488355328) := ⟨by unfold maxLen; omega, by omega⟩
  have HSZ : Hid (w.heap.size ≤ (w.alloc (.cells #[] 67)).heap.size) := by show _ ≤ _; rw [World.size_alloc]; omega
  go_enter Tryd.func38, Tryd.ntmps38
  go_wp2_with (at_builtin; refine wpList_append_own _ rfl _ _ 25 rfl w.heap.size 67 i0 (.agg #[.int .i64 0, .int .i64 0]) 2 16 Tryd.underlying25 hi hz0 hz1 hz2 rfl (by decide) _ 0 [] rfl HOWN.out ⟨hb, 0, none⟩ hs.length cap (cellsOf hs) rfl (cellsOf_len hs) (HALL.out _) (cellsOf_one hs) HMX.out.1 HMX.out.2 HSZ.out ?_; intro v' w2 hown' hg' hnil)
  obtain ⟨g, cap', hv, hbase, hhp, hcell⟩ := row_cells l0 hown'
  rw [hv]
  have HR : Hid (w.heap.size ≤ g ∧ g < w2.heap.size ∧ HolesAt w2 g hs ∧ w.grownBy w2 none) := ⟨hbase, hhp, holes_cells hcell, grown_over hg'⟩
  clear hown' hg' hnil hv hbase hhp hcell
  go_wp2_with fail
  go_ret
  exact ⟨g, cap', rfl, HR.out⟩
end Go.Proofs.YtaebihgegiddnaaDoor
