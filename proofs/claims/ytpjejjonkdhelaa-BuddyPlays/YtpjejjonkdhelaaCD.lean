/- The document's buddy: what is given; Order. -/
import Derived.Test.YtpjejjonkdhelaaCC
namespace Go.Proofs.Ytpjejjonkdhelaa
open Go.ChangeShapes Go.WideShapes Go.ChangeAt Go.RowKit Go.Maps
set_option linter.unusedSimpArgs false
set_option linter.unusedVariables false
set_option maxRecDepth 8000

/-- given blocks, listed -/
def LB (w : World) (lo : Nat) (v : Value) (L : List (Int × Int)) : Prop := ∃ p c, v = .slice p L.length c ∧ ∀ i (hi : i < L.length), ∃ g, p = some ⟨g, 0, none⟩ ∧ lo ≤ g ∧ g < w.heap.size ∧ w.cell? ⟨g, i * 2, none⟩ = some (.int .i64 L[i].1) ∧ w.cell? ⟨g, i * 2 + 1, none⟩ = some (.int .i64 L[i].2)
theorem LB.below {w W : World} {lo : Nat} {v : Value} {L : List (Int × Int)} (H : LB w lo v L) (hb : Below w.heap.size w W) : LB W lo v L := by
  obtain ⟨p, c, hv, h⟩ := H
  refine ⟨p, c, hv, fun i hi => ?_⟩
  obtain ⟨g, e, l0, lg, h1, h2⟩ := h i hi
  exact ⟨g, e, l0, Nat.lt_of_lt_of_le lg hb.size, by rw [World.cell?_of_block (w := w) (a := ⟨g, i * 2, none⟩) (hb.block g lg)]; exact h1, by rw [World.cell?_of_block (w := w) (a := ⟨g, i * 2 + 1, none⟩) (hb.block g lg)]; exact h2⟩
theorem LB.kf {w W : World} {lo : Nat} {v : Value} {L : List (Int × Int)} {S : Nat → Prop} (H : LB w lo v L) (k : Kf S w W) (hS : ∀ j, S j → j < lo) : LB W lo v L := by
  obtain ⟨p, c, hv, h⟩ := H
  refine ⟨p, c, hv, fun i hi => ?_⟩
  obtain ⟨g, e, l0, lg, h1, h2⟩ := h i hi
  have n : ¬ S g := fun s => by have := hS g s; omega
  exact ⟨g, e, l0, Nat.lt_of_lt_of_le lg k.size, by rw [World.cell?_of_block (w := w) (a := ⟨g, i * 2, none⟩) (k.block g lg n)]; exact h1, by rw [World.cell?_of_block (w := w) (a := ⟨g, i * 2 + 1, none⟩) (k.block g lg n)]; exact h2⟩
theorem LB.low {w : World} {lo lo' : Nat} {v : Value} {L : List (Int × Int)} (H : LB w lo v L) (h : lo' ≤ lo) : LB w lo' v L := by
  obtain ⟨p, c, hv, r⟩ := H
  exact ⟨p, c, hv, fun i hi => by obtain ⟨g, e, l0, r⟩ := r i hi; exact ⟨g, e, Nat.le_trans h l0, r⟩⟩
theorem lb_nil (w : World) (lo : Nat) : LB w lo (.slice none 0 0) [] := ⟨none, 0, rfl, fun i hi => absurd hi (Nat.not_lt_zero _)⟩
/-- an owned list of blocks -/
abbrev OB (w : World) (base : Nat) (v : Value) (L : List (Int × Int)) : Prop := w.ownsRow base 75 2 v L.length (cellsOf L)
theorem ob_lb {w : World} {base : Nat} {v : Value} {L : List (Int × Int)} (O : OB w base v L) : LB w base v L := by
  have hc := fun g (hg : v.ownBlock = some g) => World.ownsRow.cells (g := g) O hg
  obtain ⟨hl', ⟨hv, h0⟩ | ⟨g, cap, cur, hv, hb, hblk, _⟩⟩ := O
  · exact ⟨Option.none, 0, by rw [hv, h0], fun i hi => absurd hi (by omega)⟩
  · refine ⟨_, _, hv, fun i hi => ⟨g, rfl, hb, blk_lt hblk, ?_, ?_⟩⟩
    · have := hc g (by rw [hv]; rfl) (i * 2) (.int .i64 L[i].1) (by
        rw [cellsOf_get L (by omega), if_pos (by omega), show i * 2 / 2 = i by omega, List.getD_eq_getElem?_getD, List.getElem?_eq_getElem hi]; rfl)
      rw [Addr.add_mid, Nat.zero_add] at this; exact this
    · have := hc g (by rw [hv]; rfl) (i * 2 + 1) (.int .i64 L[i].2) (by
        rw [cellsOf_get L (by omega), if_neg (by omega), show (i * 2 + 1) / 2 = i by omega, List.getD_eq_getElem?_getD, List.getElem?_eq_getElem hi]; rfl)
      rw [Addr.add_mid, Nat.zero_add] at this; exact this
theorem ob_empty (w : World) (base : Nat) (hb : base ≤ w.heap.size) : OB (w.alloc (.cells #[] 75)) base (.slice (some ⟨w.heap.size, 0, none⟩) 0 0) [] := ⟨rfl, Or.inr ⟨w.heap.size, 0, #[], rfl, hb, own1 w _, by simp, by simp, rfl, rfl⟩⟩
theorem cells_app (L : List (Int × Int)) (x : Int × Int) : cellsOf (L ++ [x]) = cellsOf L ++ [.int .i64 x.1, .int .i64 x.2] := by
  apply List.ext_getElem?
  intro j
  have l1 := cellsOf_len L
  have l2 := cellsOf_len (L ++ [x])
  rw [List.length_append] at l2
  simp at l2
  by_cases c : j < L.length * 2
  · rw [cellsOf_get _ (by simp; omega), List.getElem?_append_left (by omega), cellsOf_get L c]
    have e : (L ++ [x]).getD (j / 2) (0, 0) = L.getD (j / 2) (0, 0) := by
      rw [List.getD_eq_getElem?_getD, List.getElem?_append_left (by omega), ← List.getD_eq_getElem?_getD]
    rw [e]
  · rw [List.getElem?_append_right (by omega), l1]
    by_cases c2 : j < L.length * 2 + 2
    · rw [cellsOf_get _ (by simp; omega)]
      have e : (L ++ [x]).getD (j / 2) (0, 0) = x := by
        rw [List.getD_eq_getElem?_getD, List.getElem?_append_right (by omega), show j / 2 - L.length = 0 by omega]; rfl
      rw [e]
      by_cases c3 : j = L.length * 2
      · subst c3; simp
      · have c4 : j = L.length * 2 + 1 := by omega
        subst c4
        rw [if_neg (by omega), show L.length * 2 + 1 - L.length * 2 = 1 by omega]; rfl
    · rw [List.getElem?_eq_none (by omega), List.getElem?_eq_none (by simp; omega)]
theorem infoB : ∃ i, Try.prog.info? 75 = some i ∧ i.zero = some (.agg #[.int .i64 0, .int .i64 0]) ∧ i.size = 2 ∧ i.bytes = 16 := ⟨_, rfl, by kernel_rfl, by kernel_rfl, by kernel_rfl⟩
theorem app_rowB (base : Nat) (v : Value) (L : List (Int × Int)) (x : Int × Int) (hL : L.length ≤ 1048576) (w : World) (h : OB w base v L) (hb : base ≤ w.heap.size) :
    ∃ v' W2, (Builtin.append_ #[33, 33] 33 #[v, .slice (some ⟨w.heap.size, 0, none⟩) 1 1]).run Try.prog (w.alloc (.cells #[.int .i64 x.1, .int .i64 x.2] 75)) = .ok v' W2 ∧ OB W2 base v' (L ++ [x]) ∧ (w.alloc (.cells #[.int .i64 x.1, .int .i64 x.2] 75)).grownBy W2 v.ownBlock := by
  obtain ⟨i0, hi, hz0, hz1, hz2⟩ := infoB
  have O0 : OB (w.alloc (.cells #[.int .i64 x.1, .int .i64 x.2] 75)) base v L := row_keep h (fun g e => (Go.Joins.below_alloc1 w (.cells #[.int .i64 x.1, .int .i64 x.2] 75)).block g (row_lt h g e).2)
  obtain ⟨v', W2, r, ho, hg, _, hat⟩ := run_append_own_at (P := Try.prog) (w.alloc (.cells #[.int .i64 x.1, .int .i64 x.2] 75)) base 33 33 75 i0 (.agg #[.int .i64 0, .int .i64 0]) 2 16 Try.underlying33 hi hz0 hz1 hz2 rfl (by decide) v L.length (cellsOf L) O0
    ⟨w.heap.size, 0, none⟩ 1 1 [.int .i64 x.1, .int .i64 x.2] rfl (fun j u hu => by
      rw [Addr.add_mid, Nat.zero_add, Go.Joins.cell_of_block (own1 w _)]
      simpa using hu) (fun u hu => by
      simp at hu
      rcases hu with rfl | rfl <;> rfl) (by unfold maxLen; omega) (by omega) (by rw [World.size_alloc]; omega)
  refine ⟨v', W2, r, ?_, hg⟩
  show W2.ownsRow base 75 2 v' (L ++ [x]).length (cellsOf (L ++ [x]))
  rw [List.length_append, cells_app]; exact ho
/-- what is given, as a list: by rising frames -/
def LG (L : List (Int × Int)) (G : Int → Option Int) : Prop := (∀ a o, (a, o) ∈ L ↔ G a = some o) ∧ Asc (L.map Prod.fst)
theorem LG.one {L : List (Int × Int)} {G : Int → Option Int} (H : LG L G) {i : Nat} (hi : i < L.length) : G L[i].1 = some L[i].2 := (H.1 _ _).1 (by rw [show (L[i].1, L[i].2) = L[i] from rfl]; exact List.getElem_mem hi)
set_option maxHeartbeats 1000000 in
theorem rorder_any (fb n cf lo : Nat) (gv : Value) (L : List (Int × Int)) (G : Int → Option Int) (hG : LG L G) (l9 : L.length ≤ 1048576) (x : Int) (w : World) (H : LB w lo gv L) :
    Calls Try.prog 24 #[.agg #[.slice (some ⟨fb, 0, none⟩) n cf, gv], .int .i64 x] w fun e w' => e = .returned (.int .i64 ((G x).getD (-1))) ∧ Below w.heap.size w w' := by
  obtain ⟨p, c, rfl, rd⟩ := H
  have RD : Hid (∀ i (hi : i < L.length), ∃ g, p = some ⟨g, 0, none⟩ ∧ lo ≤ g ∧ g < w.heap.size ∧ w.cell? ⟨g, i * 2, none⟩ = some (.int .i64 L[i].1) ∧ w.cell? ⟨g, i * 2 + 1, none⟩ = some (.int .i64 L[i].2)) := rd
  obtain ⟨z, hz⟩ : ∃ z, (G x).getD (-1) = z := ⟨_, rfl⟩
  rw [hz]
  have HY : Hid (∀ i (hi : i < L.length), L[i].1 = x → z = L[i].2) := fun i hi e => by rw [← hz, ← e, hG.one hi]; rfl
  have HN : Hid ((∀ i (hi : i < L.length), L[i].1 ≠ x) → z = -1) := fun h => by
    rw [← hz]
    cases e : G x with
    | none => rfl
    | some o =>
      obtain ⟨i, hi, e2⟩ := List.getElem_of_mem ((hG.1 x o).2 e)
      exact absurd (by rw [e2]) (h i hi)
  obtain ⟨ll, hll⟩ : ∃ ll, ll = L.length := ⟨_, rfl⟩
  have HLL : Hid (ll = L.length) := hll
  rw [← hll] at l9 ⊢
  clear rd hz hll hG
  go_enter Try.func24, Try.ntmps24
  go_wp2_with fail
  have B0 : Hid (Below w.heap.size w (w.alloc (.cells #[.slice (some ⟨fb, 0, none⟩) n cf, .slice p ll c] 35))) := Go.Joins.below_alloc1 _ _
  generalize w.alloc (.cells #[.slice (some ⟨fb, 0, none⟩) n cf, .slice p ll c] 35) = w1 at *
  go_loopw [6, 10] (fun _ vi W => ∃ i : Nat, i ≤ ll ∧ vi = .int .i64 i ∧ Hid (Below w.heap.size w W) ∧ Hid (∀ j (hj : j < L.length), j < i → L[j].1 ≠ x)) (fun _ vi _ => ll - (Go.RowKit.intOf vi).toNat)
  case atStart => exact ⟨0, by omega, rfl, B0, fun j hj h => absurd h (Nat.not_lt_zero _)⟩
  case round =>
    clear B0
    obtain ⟨i, hi, rfl, hb, hF⟩ := hrel
    by_cases ci : i < ll
    rotate_left
    · obtain rfl : i = ll := by omega
      have d1 : decide ((i : Int) < (i : Int)) = false := by simp
      have z1 : Hid (z = -1) := HN.out (fun j hj => hF.out j hj (by have := HLL.out; omega))
      go_wp2_with fail
      go_ret
      exact ⟨by rw [z1.out]; rfl, hb.out⟩
    have d1 : decide ((i : Int) < (ll : Int)) = true := by simp; omega
    have d0 : decide ((i : Int) < 0) = false := by simp
    have iL : i < L.length := by have := HLL.out; omega
    obtain ⟨g, rfl, _, lg, q1, q2⟩ := RD.out i iL
    have k1 : wr.cell? ⟨g, i * 2, none⟩ = some (.int .i64 L[i].1) := by rw [World.cell?_of_block (w := w) (a := ⟨g, i * 2, none⟩) (hb.out.block g lg)]; exact q1
    have k2 : wr.cell? ⟨g, i * 2 + 1, none⟩ = some (.int .i64 L[i].2) := by rw [World.cell?_of_block (w := w) (a := ⟨g, i * 2 + 1, none⟩) (hb.out.block g lg)]; exact q2
    have lg2 : g < wr.heap.size := Nat.lt_of_lt_of_le lg hb.out.size
    by_cases ex : L[i].1 = x
    · have z1 : Hid (z = L[i].2) := HY.out i iL ex
      rw [ex] at k1
      generalize L[i].2 = o at *
      have e1 : (x == x) = true := by simp
      clear hF q1 q2 ex iL
      go_wp2_with fail
      go_ret
      exact ⟨by rw [z1.out]; rfl, hb.out.alloc hb.out.size _⟩
    · have NX : Hid (∀ j (hj : j < L.length), j < i + 1 → L[j].1 ≠ x) := fun j hj h => by
        by_cases e : j = i
        · subst e; exact ex
        · exact hF.out j hj (by omega)
      have e1 : (L[i].1 == x) = false := by simp [ex]
      generalize L[i].1 = y at *
      generalize L[i].2 = o at *
      clear hF q1 q2 iL
      go_wp2_with fail
      go_roundw
      case rel => exact ⟨i + 1, by omega, by go_num, hb.out.alloc hb.out.size _, NX⟩
      case measure => simp [Go.RowKit.intOf]; omega
end Go.Proofs.Ytpjejjonkdhelaa
