/- A list of at most 70 ranges; ranges that are low; two lists alike. -/
import Derived.Test.YtpjejjonkdhelaaBDO
import Derived.BigQuiet
namespace Go.Proofs.Ytpjejjonkdhelaa
open Go.ChangeShapes Go.WideShapes Go.ChangeAt Go.RowKit Go.Maps
set_option linter.unusedSimpArgs false
set_option linter.unusedVariables false
set_option maxRecDepth 8000

theorem range_info : (Try.prog.info? 59).map (fun i => (i.zero, i.size, i.bytes)) = some (some (.agg #[.int .i64 0, .int .i64 0]), 2, 16) := by kernel_rfl
def cellsOf (hs : List (Int × Int)) : List Value := (List.range (hs.length * 2)).map fun j => if j % 2 = 0 then .int .i64 (hs.getD (j / 2) (0, 0)).1 else .int .i64 (hs.getD (j / 2) (0, 0)).2
theorem cellsOf_len (hs : List (Int × Int)) : (cellsOf hs).length = hs.length * 2 := by simp [cellsOf]
theorem cellsOf_get (hs : List (Int × Int)) {j : Nat} (h : j < hs.length * 2) : (cellsOf hs)[j]? = some (if j % 2 = 0 then .int .i64 (hs.getD (j / 2) (0, 0)).1 else .int .i64 (hs.getD (j / 2) (0, 0)).2) := by
  simp only [cellsOf, List.getElem?_map, List.getElem?_range h, Option.map_some]
def HolesAt (w : World) (hb : Nat) (hs : List (Int × Int)) : Prop := ∀ (j : Nat) (h : Int × Int), hs[j]? = some h → w.cell? ⟨hb, j * 2, none⟩ = some (.int .i64 h.1) ∧ w.cell? ⟨hb, j * 2 + 1, none⟩ = some (.int .i64 h.2)
theorem holes_cells {w : World} {hb : Nat} {hs : List (Int × Int)} (h : ∀ j u, (cellsOf hs)[j]? = some u → w.cell? ⟨hb, j, none⟩ = some u) : HolesAt w hb hs := by
  intro j x hx
  have hj : j < hs.length := (List.getElem?_eq_some_iff.1 hx).1
  have hd : hs.getD j (0, 0) = x := by rw [List.getD_eq_getElem?_getD, hx]; rfl
  refine ⟨h (j * 2) _ ?_, h (j * 2 + 1) _ ?_⟩
  · rw [cellsOf_get hs (by omega), if_pos (by omega), show j * 2 / 2 = j by omega, hd]
  · rw [cellsOf_get hs (by omega), if_neg (by omega), show (j * 2 + 1) / 2 = j by omega, hd]
theorem cellsOf_one (hs : List (Int × Int)) : ∀ u ∈ cellsOf hs, u.oneCell' = true := by
  intro u hu
  simp only [cellsOf, List.mem_map] at hu
  obtain ⟨j, _, rfl⟩ := hu
  split <;> rfl

theorem row_cells {w : World} {B e : Nat} {v : Value} {hs : List (Int × Int)} (l0 : 0 < hs.length) (h : w.ownsRow B e 2 v (0 + hs.length) ([] ++ cellsOf hs)) :
    ∃ g cap, v = .slice (some ⟨g, 0, none⟩) hs.length cap ∧ B ≤ g ∧ g < w.heap.size ∧ ∀ j u, (cellsOf hs)[j]? = some u → w.cell? ⟨g, j, none⟩ = some u := by
  obtain ⟨_, h⟩ := h
  rcases h with ⟨_, h⟩ | ⟨g, cap, cur, hv, hB, hh, hn, hc, hs', ht⟩
  · omega
  · refine ⟨g, cap, by rw [hv, Nat.zero_add], hB, (Array.getElem?_eq_some_iff.1 hh).1, ?_⟩
    intro j u hu
    rw [List.nil_append] at ht
    rw [← ht] at hu
    have hj : j < (0 + hs.length) * 2 := by
      have := (List.getElem?_eq_some_iff.1 hu).1
      rw [List.length_take] at this; omega
    rw [List.getElem?_take_of_lt hj, Array.getElem?_toList] at hu
    rw [cell_of_row w g j cur e (0, 0) hh]; exact hu
theorem grown_over {w w2 : World} {o : Obj} (h : (w.alloc o).grownBy w2 (some w.heap.size)) : w.grownBy w2 none :=
  ⟨h.os, h.tape, h.output, by have := h.size; rw [World.size_alloc] at this; omega, fun k hk _ => by
    rw [h.block k (by rw [World.size_alloc]; omega) (by intro e; cases e; omega)]; exact Below.heap_alloc w _ k hk⟩

def firstOf (F : Nat → Int × Int) (n : Nat) : List (Int × Int) := (List.range n).map F
theorem first_len (F : Nat → Int × Int) (n : Nat) : (firstOf F n).length = n := by simp [firstOf]
theorem first_get (F : Nat → Int × Int) (n j : Nat) (h : j < n) : (firstOf F n).getD j (0, 0) = F j := by
  rw [List.getD_eq_getElem?_getD, List.getElem?_eq_getElem (by rw [first_len]; exact h)]
  simp [firstOf]
theorem rgs_cells {w : World} {b o n m : Nat} {F : Nat → Int × Int} (h : IsRgs w (some ⟨b, o, none⟩) n F) (hm : m ≤ n) : ∀ j u, (cellsOf (firstOf F m))[j]? = some u → w.cell? ((⟨b, o, none⟩ : Addr).add j) = some u := by
  intro j u hu
  have hj : j < (firstOf F m).length * 2 := by have := (List.getElem?_eq_some_iff.1 hu).1; rw [cellsOf_len] at this; exact this
  have hj2 := hj
  rw [first_len] at hj2
  rw [cellsOf_get _ hj, first_get F m (j / 2) (by omega)] at hu
  obtain ⟨b', o', e, _, c0, c1, _, _⟩ := h (j / 2) (by omega)
  cases e
  have ad : (⟨b, o, none⟩ : Addr).add j = ⟨b, o + j, none⟩ := by unfold Addr.add; split <;> simp_all
  rw [ad]
  by_cases c : j % 2 = 0
  · rw [if_pos c] at hu; cases hu
    rw [show o + j = o + j / 2 * 2 by omega]; exact c0
  · rw [if_neg c] at hu; cases hu
    rw [show o + j = o + j / 2 * 2 + 1 by omega]; exact c1
theorem own_new (w : World) (o : Obj) : (w.alloc o).heap[w.heap.size]? = some o := (MapKept.heap_alloc w o).1
set_option maxHeartbeats 1000000 in
theorem few_short (b o n c : Nat) (F : Nat → Int × Int) (w : World) (h : IsRgs w (some ⟨b, o, none⟩) n F) (n0 : 0 < n) (n9 : n ≤ maxLen) (hn : n ≤ 70) :
    Calls Try.prog 9 #[.slice (some ⟨b, o, none⟩) n c, .int .i64 70] w fun e w' => ∃ g cap, e = .returned (.slice (some ⟨g, 0, none⟩) (firstOf F (n)).length cap) ∧ w.heap.size ≤ g ∧ g < w'.heap.size ∧ HolesAt w' g (firstOf F (n)) ∧ Below w.heap.size w w' := by
  have hlb : b < w.heap.size := by obtain ⟨b', o', e, l, _⟩ := h 0 n0; cases e; exact l
  cases hq : Try.prog.info? 59 with
  | none => have hri := range_info; simp [hq] at hri
  | some i0 =>
  have hri := range_info
  rw [hq] at hri
  have hi := hq
  clear hq
  simp at hri
  obtain ⟨hz0, hz1, hz2⟩ := hri
  have L : Hid ((firstOf F (n)).length = n) := first_len F (n)
  have OW : Hid ((w.alloc (.cells #[] 59)).ownsRow w.heap.size 59 2 (.slice (some ⟨w.heap.size, 0, none⟩) 0 0) 0 []) := ⟨rfl, Or.inr ⟨w.heap.size, 0, #[], rfl, by omega, own_new w _, by omega, by omega, rfl, rfl⟩⟩
  have NW : Hid (∀ j u, (cellsOf (firstOf F (n)))[j]? = some u → (w.alloc (.cells #[] 59)).cell? ((⟨b, o, none⟩ : Addr).add j) = some u) := fun j u hu => by
    have h1 := rgs_cells h (m := n) (by omega) j u hu
    have hl : ((⟨b, o, none⟩ : Addr).add j).block < w.heap.size := lt_of_cell h1
    exact (World.cell?_alloc_lt _ _ _ hl).trans h1
  have ON : Hid (∀ x ∈ cellsOf (firstOf F (n)), x.oneCell' = true) := cellsOf_one _
  have LL : Hid ((cellsOf (firstOf F (n))).length = (n) * 2) := by show _ = _; rw [cellsOf_len, first_len]
  have HZ : Hid (w.heap.size ≤ (w.alloc (.cells #[] 59)).heap.size) := by show _ ≤ _; rw [World.size_alloc]; omega
  have MX : Hid (0 + (n) ≤ maxLen) := by show _ ≤ _; omega
  have BY : Hid ((0 + (n)) * 16 ≤ 140737488355328) := by show _ ≤ _; omega
  have B0 : Hid (Below w.heap.size w (w.alloc (.cells #[] 59))) := Go.Joins.below_alloc1 _ _
  have hd : decide (70 < (n : Int)) = false := by simp; omega
  go_enter Try.func9, Try.ntmps9
  go_wp2_with (at_builtin; refine wpList_append_own _ rfl _ _ 22 rfl w.heap.size 59 i0 (.agg #[.int .i64 0, .int .i64 0]) 2 16 Try.underlying22 hi hz0 hz1 hz2 rfl (by decide) (.slice (some ⟨w.heap.size, 0, none⟩) 0 0) 0 [] rfl OW.out ⟨b, o, none⟩ (n) c (cellsOf (firstOf F (n))) rfl LL.out NW.out ON.out MX.out BY.out HZ.out ?_; intro v1 a0 hown hg hnil)
  have O1 : Hid (a0.ownsRow w.heap.size 59 2 v1 (0 + (n)) ([] ++ cellsOf (firstOf F (n)))) := hown
  have B1 : Hid (Below w.heap.size w a0) := below_none (grown_over hg)
  clear hown hg hnil OW NW ON HZ MX BY
  go_wp2_with fail
  go_ret
  have hl := L.out
  have hr : a0.ownsRow w.heap.size 59 2 v1 (0 + (firstOf F (n)).length) ([] ++ cellsOf (firstOf F (n))) := by rw [hl]; exact O1.out
  obtain ⟨g, cap, rfl, k1, k2, k3⟩ := row_cells (by rw [hl]; omega) hr
  exact ⟨g, cap, rfl, k1, k2, holes_cells k3, B1.out⟩
set_option maxHeartbeats 1000000 in
theorem few_long (b o n c : Nat) (F : Nat → Int × Int) (w : World) (h : IsRgs w (some ⟨b, o, none⟩) n F) (n0 : 0 < n) (nc : n ≤ c) (n9 : n ≤ maxLen) (hn : 70 < n) :
    Calls Try.prog 9 #[.slice (some ⟨b, o, none⟩) n c, .int .i64 70] w fun e w' => ∃ g cap, e = .returned (.slice (some ⟨g, 0, none⟩) (firstOf F (70)).length cap) ∧ w.heap.size ≤ g ∧ g < w'.heap.size ∧ HolesAt w' g (firstOf F (70)) ∧ Below w.heap.size w w' := by
  have hlb : b < w.heap.size := by obtain ⟨b', o', e, l, _⟩ := h 0 n0; cases e; exact l
  cases hq : Try.prog.info? 59 with
  | none => have hri := range_info; simp [hq] at hri
  | some i0 =>
  have hri := range_info
  rw [hq] at hri
  have hi := hq
  clear hq
  simp at hri
  obtain ⟨hz0, hz1, hz2⟩ := hri
  have L : Hid ((firstOf F (70)).length = 70) := first_len F (70)
  have OW : Hid ((w.alloc (.cells #[] 59)).ownsRow w.heap.size 59 2 (.slice (some ⟨w.heap.size, 0, none⟩) 0 0) 0 []) := ⟨rfl, Or.inr ⟨w.heap.size, 0, #[], rfl, by omega, own_new w _, by omega, by omega, rfl, rfl⟩⟩
  have NW : Hid (∀ j u, (cellsOf (firstOf F (70)))[j]? = some u → (w.alloc (.cells #[] 59)).cell? ((⟨b, o, none⟩ : Addr).add j) = some u) := fun j u hu => by
    have h1 := rgs_cells h (m := 70) (by omega) j u hu
    have hl : ((⟨b, o, none⟩ : Addr).add j).block < w.heap.size := lt_of_cell h1
    exact (World.cell?_alloc_lt _ _ _ hl).trans h1
  have ON : Hid (∀ x ∈ cellsOf (firstOf F (70)), x.oneCell' = true) := cellsOf_one _
  have LL : Hid ((cellsOf (firstOf F (70))).length = (70) * 2) := by show _ = _; rw [cellsOf_len, first_len]
  have HZ : Hid (w.heap.size ≤ (w.alloc (.cells #[] 59)).heap.size) := by show _ ≤ _; rw [World.size_alloc]; omega
  have MX : Hid (0 + (70) ≤ maxLen) := by show _ ≤ _; omega
  have BY : Hid ((0 + (70)) * 16 ≤ 140737488355328) := by show _ ≤ _; omega
  have B0 : Hid (Below w.heap.size w (w.alloc (.cells #[] 59))) := Go.Joins.below_alloc1 _ _
  have hd : decide (70 < (n : Int)) = true := by simp; omega
  go_enter Try.func9, Try.ntmps9
  go_wp2_with (at_builtin; refine wpList_append_own _ rfl _ _ 22 rfl w.heap.size 59 i0 (.agg #[.int .i64 0, .int .i64 0]) 2 16 Try.underlying22 hi hz0 hz1 hz2 rfl (by decide) (.slice (some ⟨w.heap.size, 0, none⟩) 0 0) 0 [] rfl OW.out ⟨b, o, none⟩ (70) c (cellsOf (firstOf F (70))) rfl LL.out NW.out ON.out MX.out BY.out HZ.out ?_; intro v1 a0 hown hg hnil)
  have O1 : Hid (a0.ownsRow w.heap.size 59 2 v1 (0 + (70)) ([] ++ cellsOf (firstOf F (70)))) := hown
  have B1 : Hid (Below w.heap.size w a0) := below_none (grown_over hg)
  clear hown hg hnil OW NW ON HZ MX BY
  go_wp2_with fail
  go_ret
  have hl := L.out
  have hr : a0.ownsRow w.heap.size 59 2 v1 (0 + (firstOf F (70)).length) ([] ++ cellsOf (firstOf F (70))) := by rw [hl]; exact O1.out
  obtain ⟨g, cap, rfl, k1, k2, k3⟩ := row_cells (by rw [hl]; omega) hr
  exact ⟨g, cap, rfl, k1, k2, holes_cells k3, B1.out⟩
set_option maxHeartbeats 1000000 in
theorem few_none (p : Option Addr) (c : Nat) (w : World) (hp : p = none ∨ ∃ a, p = some a) :
    Calls Try.prog 9 #[.slice p 0 c, .int .i64 70] w fun e w' => ∃ g cap, e = .returned (.slice (some ⟨g, 0, none⟩) 0 cap) ∧ w.heap.size ≤ g ∧ g < w'.heap.size ∧ Below w.heap.size w w' := by
  rcases hp with rfl | ⟨a, rfl⟩
  all_goals
    go_enter Try.func9, Try.ntmps9
    go_wp2
    go_ret
    exact ⟨_, _, rfl, by omega, by simp, Go.Joins.below_alloc1 _ _⟩

theorem holes_rgs {w : World} {g m : Nat} {F : Nat → Int × Int} (lg : g < w.heap.size) (h : HolesAt w g (firstOf F m)) : Rgs w g m F := ⟨lg, fun i hi => by
  have e : (firstOf F m)[i]? = some (F i) := by simp [firstOf, hi]
  exact h i _ e⟩
theorem few_any (p : Option Addr) (n c : Nat) (F : Nat → Int × Int) (m : Nat) (hm : m = min n 70) (w : World) (h : IsRgs w p n F) (nc : n ≤ c) (n9 : n ≤ maxLen) :
    Calls Try.prog 9 #[.slice p n c, .int .i64 70] w fun e w' => ∃ g cap, e = .returned (.slice (some ⟨g, 0, none⟩) m cap) ∧ w.heap.size ≤ g ∧ Rgs w' g m F ∧ Below w.heap.size w w' := by
  by_cases n0 : 0 < n
  · obtain ⟨b, o, rfl, _⟩ := h 0 n0
    by_cases c70 : n ≤ 70
    · refine (few_short b o n c F w h n0 n9 c70).mono ?_
      rintro e w' ⟨g, cap, he, l1, l2, hh, hb⟩
      obtain rfl : m = n := by omega
      rw [first_len] at he
      exact ⟨g, cap, he, l1, holes_rgs l2 hh, hb⟩
    · refine (few_long b o n c F w h n0 nc n9 (by omega)).mono ?_
      rintro e w' ⟨g, cap, he, l1, l2, hh, hb⟩
      obtain rfl : m = 70 := by omega
      rw [first_len] at he
      exact ⟨g, cap, he, l1, holes_rgs l2 hh, hb⟩
  · obtain rfl : n = 0 := by omega
    obtain rfl : m = 0 := by omega
    refine (few_none p c w (by cases p with | none => exact Or.inl rfl | some a => exact Or.inr ⟨a, rfl⟩)).mono ?_
    rintro e w' ⟨g, cap, he, l1, l2, hb⟩
    exact ⟨g, cap, he, l1, ⟨l2, fun i hi => absurd hi (Nat.not_lt_zero _)⟩, hb⟩
theorem few_again (g n c : Nat) (F : Nat → Int × Int) (w : World) (h : Rgs w g n F) (hw : ∀ i, i < n → (Lit.int .i64 (F i).1).wf = true ∧ (Lit.int .i64 (F i).2).wf = true) (hn : n ≤ 70) :
    Calls Try.prog 9 #[.slice (some ⟨g, 0, none⟩) n c, .int .i64 70] w fun e w' => ∃ g cap, e = .returned (.slice (some ⟨g, 0, none⟩) n cap) ∧ w.heap.size ≤ g ∧ Rgs w' g n F ∧ Below w.heap.size w w' := by
  by_cases n0 : 0 < n
  · refine (few_short g 0 n c F w (fun i hi => ⟨g, 0, rfl, h.1, by rw [Nat.zero_add]; exact (h.2 i hi).1, by rw [Nat.zero_add]; exact (h.2 i hi).2, hw i hi⟩) n0 (by unfold maxLen; omega) hn).mono ?_
    rintro e w' ⟨g', cap, he, l1, l2, hh, hb⟩
    rw [first_len] at he
    exact ⟨g', cap, he, l1, holes_rgs l2 hh, hb⟩
  · obtain rfl : n = 0 := by omega
    refine (few_none (some ⟨g, 0, none⟩) c w (Or.inr ⟨_, rfl⟩)).mono ?_
    rintro e w' ⟨g', cap, he, l1, l2, hb⟩
    exact ⟨g', cap, he, l1, ⟨l2, fun i hi => absurd hi (Nat.not_lt_zero _)⟩, hb⟩
set_option maxHeartbeats 1000000 in
theorem low_any' (g n c : Nat) (R : Nat → Int × Int) (x : Int) (z : Bool) (hz : z = true ↔ ∀ m, m < n → (R m).2 ≤ x) (hn : n ≤ 1000) (w : World) (H : Rgs w g n R) :
    Calls Try.prog 13 #[.slice (some ⟨g, 0, none⟩) n c, .int .i64 x] w fun e w' => e = .returned (.bool z) ∧ Below w.heap.size w w' := by
  have HH : Hid (Rgs w g n R) := H
  have HZ : Hid (z = true ↔ ∀ m, m < n → (R m).2 ≤ x) := hz
  clear H hz
  go_enter Try.func13, Try.ntmps13
  go_wp2_with fail
  go_loopw [6, 9] (fun _ i wr => ∃ j : Nat, j ≤ n ∧ i = .int .i64 j ∧ Hid (Below w.heap.size w wr) ∧ Hid (∀ m, m < j → (R m).2 ≤ x)) (fun _ i _ => n - (Go.RowKit.intOf i).toNat)
  case atStart => exact ⟨0, by omega, rfl, Below.refl _ _, fun i hi => absurd hi (Nat.not_lt_zero _)⟩
  case round =>
    obtain ⟨j, hj, rfl, hb, hF⟩ := hrel
    by_cases cj : j < n
    rotate_left
    · obtain rfl : j = n := by omega
      have d1 : decide ((j : Int) < (j : Int)) = false := by simp
      go_wp2_with fail
      go_ret
      exact ⟨by rw [HZ.out.2 hF.out]; rfl, hb.out⟩
    have dj : decide ((j : Int) < (n : Int)) = true := by simp; omega
    have d0 : decide ((j : Int) < 0) = false := by simp
    have RR := HH.out.below hb.out
    obtain ⟨q1, q2⟩ := RR.2 j cj
    have lg := RR.1
    by_cases cc : x < (R j).2
    · have zf : Hid (z = false) := by
        show z = false
        cases z with
        | false => rfl
        | true => have := HZ.out.1 rfl j cj; omega
      generalize (R j).1 = f at *
      generalize (R j).2 = t at *
      have e1 : decide (x < t) = true := by simp [cc]
      clear RR hF
      go_wp2_with fail
      go_ret
      exact ⟨by rw [zf.out]; rfl, hb.out.alloc hb.out.size _⟩
    · have NX : Hid (∀ m, m < j + 1 → (R m).2 ≤ x) := fun m hm => by
        by_cases e : m = j
        · subst e; omega
        · exact hF.out m (by omega)
      generalize (R j).1 = f at *
      generalize (R j).2 = t at *
      have e1 : decide (x < t) = false := by simp; omega
      clear RR hF
      go_wp2_with fail
      go_roundw
      case rel => exact ⟨j + 1, by omega, by go_num, hb.out.alloc hb.out.size _, NX⟩
      case measure => simp [Go.RowKit.intOf]; omega
/-- a list of ints -/
def Lst (w : World) (v : Value) (L : List Int) : Prop := ∃ p c, v = .slice p L.length c ∧ ∀ i (hi : i < L.length), ∃ g, p = some ⟨g, 0, none⟩ ∧ g < w.heap.size ∧ w.cell? ⟨g, i, none⟩ = some (.int .i64 L[i])
theorem lst_row {w : World} {base : Nat} {v : Value} {L : List Int} (O : w.ownsRow base 3 1 v L.length (L.map (Value.int .i64))) : Lst w v L := by
  have hc := fun g (hg : v.ownBlock = some g) => World.ownsRow.cells (g := g) O hg
  obtain ⟨hl, ⟨hv, h0⟩ | ⟨g, cap, cur, hv, hb, hblk, _⟩⟩ := O
  · exact ⟨Option.none, 0, by rw [hv, h0], fun i hi => absurd hi (by omega)⟩
  · refine ⟨_, _, hv, fun i hi => ⟨g, rfl, blk_lt hblk, ?_⟩⟩
    have := hc g (by rw [hv]; rfl) i (.int .i64 L[i]) (by rw [List.getElem?_map, List.getElem?_eq_getElem hi]; rfl)
    rw [Addr.add_mid, Nat.zero_add] at this; exact this
theorem Lst.below {w W : World} {v : Value} {L : List Int} (H : Lst w v L) (hb : Below w.heap.size w W) : Lst W v L := by
  obtain ⟨p, c, hv, h⟩ := H
  refine ⟨p, c, hv, fun i hi => ?_⟩
  obtain ⟨g, e, lg, hc⟩ := h i hi
  exact ⟨g, e, Nat.lt_of_lt_of_le lg hb.size, by rw [World.cell?_of_block (w := w) (a := ⟨g, i, none⟩) (hb.block g lg)]; exact hc⟩
theorem asc_eq {L M : List Int} (a : Asc L) (b : Asc M) (h : ∀ x, x ∈ L ↔ x ∈ M) : L = M := by
  have nd : ∀ {K : List Int}, Asc K → K.Nodup := fun {K} k => List.Pairwise.imp (fun {x y} (h : x < y) => (by omega : x ≠ y)) k
  refine List.Perm.eq_of_pairwise (le := fun x y => x < y) (fun x y _ _ h1 h2 => ?_) a b ((List.perm_ext_iff_of_nodup (nd a) (nd b)).2 h)
  have h1' : x < y := h1
  have h2' : y < x := h2
  omega
theorem asc_nd {K : List Int} (k : Asc K) : Nd K := fun i j x ij e1 e2 => by
  have h : ∀ i j x, i < j → K[i]? = some x → K[j]? = some x → False := fun i j x l e1 e2 => by
    obtain ⟨h1, g1⟩ := List.getElem?_eq_some_iff.1 e1
    obtain ⟨h2, g2⟩ := List.getElem?_eq_some_iff.1 e2
    have := List.pairwise_iff_getElem.1 k i j h1 h2 l
    rw [g1, g2] at this
    omega
  rcases Nat.lt_or_gt_of_ne ij with c | c
  · exact h i j x c e1 e2
  · exact h j i x c e2 e1
set_option maxHeartbeats 1000000 in
theorem same_yes (v1 v2 : Value) (L : List Int) (l9 : L.length ≤ 1048576) (w : World) (H1 : Lst w v1 L) (H2 : Lst w v2 L) :
    Calls Try.prog 26 #[v1, v2] w fun e w' => e = .returned (.bool true) ∧ Below w.heap.size w w' := by
  obtain ⟨p1, c1, rfl, r1⟩ := H1
  obtain ⟨p2, c2, rfl, r2⟩ := H2
  have R1 : Hid (∀ i (hi : i < L.length), ∃ g, p1 = some ⟨g, 0, none⟩ ∧ g < w.heap.size ∧ w.cell? ⟨g, i, none⟩ = some (.int .i64 L[i])) := r1
  have R2 : Hid (∀ i (hi : i < L.length), ∃ g, p2 = some ⟨g, 0, none⟩ ∧ g < w.heap.size ∧ w.cell? ⟨g, i, none⟩ = some (.int .i64 L[i])) := r2
  clear r1 r2
  obtain ⟨n, hn⟩ : ∃ n, n = L.length := ⟨_, rfl⟩
  rw [← hn] at l9 ⊢
  have HN : Hid (n = L.length) := hn
  have e0 : ((n : Int) != (n : Int)) = false := by simp
  clear hn
  go_enter Try.func26, Try.ntmps26
  go_wp2_with fail
  go_loopw [5, 13] (fun _ v W => ∃ i : Nat, i ≤ n ∧ v = .int .i64 i ∧ Hid (Below w.heap.size w W)) (fun _ v _ => n - (Go.RowKit.intOf v).toNat)
  case atStart => exact ⟨0, by omega, rfl, Below.refl _ _⟩
  case round =>
    obtain ⟨i, hi, rfl, hb⟩ := hrel
    by_cases ci : i < n
    rotate_left
    · obtain rfl : i = n := by omega
      have d1 : decide ((i : Int) < (i : Int)) = false := by simp
      go_wp2_with fail
      go_ret
      exact ⟨rfl, hb.out⟩
    have d1 : decide ((i : Int) < (n : Int)) = true := by simp; omega
    have d0 : decide ((i : Int) < 0) = false := by simp
    have iL : i < L.length := by have := HN.out; omega
    obtain ⟨g1, rfl, lg1, q1⟩ := R1.out i iL
    obtain ⟨g2, rfl, lg2, q2⟩ := R2.out i iL
    have k1 : wr.cell? ⟨g1, i, none⟩ = some (.int .i64 L[i]) := by rw [World.cell?_of_block (w := w) (a := ⟨g1, i, none⟩) (hb.out.block g1 lg1)]; exact q1
    have k2 : wr.cell? ⟨g2, i, none⟩ = some (.int .i64 L[i]) := by rw [World.cell?_of_block (w := w) (a := ⟨g2, i, none⟩) (hb.out.block g2 lg2)]; exact q2
    have s1 : g1 < wr.heap.size := Nat.lt_of_lt_of_le lg1 hb.out.size
    have s2 : g2 < wr.heap.size := Nat.lt_of_lt_of_le lg2 hb.out.size
    generalize L[i] = x at *
    have ex : (x != x) = false := by simp
    clear q1 q2 lg1 lg2 iL
    go_wp2_with fail
    go_quiet (fail)
    go_wp2_with fail
    go_roundw
    case rel => exact ⟨i + 1, by omega, by go_num, hb.out.trans (below_drewN (Below.refl _ _) _)⟩
    case measure => simp [Go.RowKit.intOf]; omega
end Go.Proofs.Ytpjejjonkdhelaa
