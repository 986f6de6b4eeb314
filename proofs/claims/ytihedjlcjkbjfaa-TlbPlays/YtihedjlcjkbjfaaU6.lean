/- The lines: rows of the document's lines; what fits, what stands ahead. -/
import Derived.Test.YtihedjlcjkbjfaaU5
namespace Go.Proofs.Ytihedjlcjkbjfaa
open Go.ChangeShapes Go.WideShapes Go.ChangeAt Go.RowKit Go.Maps
set_option linter.unusedSimpArgs false
set_option linter.unusedVariables false
set_option maxRecDepth 8000

def Rl.enc (r : Rl) : List Value := [.int .i64 r.y, .int .i64 r.t, .int .i64 r.p, .int .i64 r.f, .bool r.w, .bool r.u, .bool r.x, .bool r.g, .bool r.d]
abbrev Rl.val (r : Rl) : Value := .agg #[.int .i64 r.y, .int .i64 r.t, .int .i64 r.p, .int .i64 r.f, .bool r.w, .bool r.u, .bool r.x, .bool r.g, .bool r.d]
def IsRl (w : World) (base : Nat) (p : Option Addr) (L : List Rl) : Prop := ∀ i, i < L.length → ∃ g, p = some ⟨g, 0, none⟩ ∧ base ≤ g ∧ g < w.heap.size ∧ ∀ j x, (L.getD i Rl.zero).enc[j]? = some x → w.cell? ⟨g, i * 9 + j, none⟩ = some x
theorem IsRl.below {w w' : World} {base : Nat} {p : Option Addr} {L : List Rl} (h : IsRl w base p L) (hb : Below w.heap.size w w') : IsRl w' base p L := fun i hi => by
  obtain ⟨g, e, l1, l2, c⟩ := h i hi
  exact ⟨g, e, l1, Nat.lt_of_lt_of_le l2 hb.size, fun j x hx => (hb.cell (p := ⟨g, i * 9 + j, none⟩) l2).trans (c j x hx)⟩
theorem IsRl.grown {w w' : World} {base c : Nat} {p : Option Addr} {L : List Rl} (h : IsRl w base p L) (hg : w.grownBy w' (some c)) (ne : c < base) : IsRl w' base p L := fun i hi => by
  obtain ⟨g, e, l1, l2, k⟩ := h i hi
  exact ⟨g, e, l1, Nat.lt_of_lt_of_le l2 hg.size, fun j x hx => (World.cell?_of_block (w := w) (a := ⟨g, i * 9 + j, none⟩) (hg.block g l2 (fun q => by have := Option.some.inj q; omega))).trans (k j x hx)⟩
theorem IsRl.weak {w : World} {base base' : Nat} {p : Option Addr} {L : List Rl} (h : IsRl w base p L) (hb : base' ≤ base) : IsRl w base' p L := fun i hi => by
  obtain ⟨g, e, l1, l2, c⟩ := h i hi
  exact ⟨g, e, by omega, l2, c⟩
theorem rlenc_len (r : Rl) : r.enc.length = 9 := rfl
theorem flatl_enc : ∀ (L : List Rl) (i j : Nat), i < L.length → j < 9 → (L.flatMap Rl.enc)[i * 9 + j]? = (L.getD i Rl.zero).enc[j]?
  | [], i, j, h, _ => absurd h (Nat.not_lt_zero _)
  | l :: r, 0, j, h, hj => by
    rw [List.flatMap_cons, List.getElem?_append_left (by rw [rlenc_len]; omega)]
    simp [List.getD]
  | l :: r, i + 1, j, h, hj => by
    rw [List.flatMap_cons, List.getElem?_append_right (by rw [rlenc_len]; omega), rlenc_len]
    rw [show (i + 1) * 9 + j - 9 = i * 9 + j by omega, flatl_enc r i j (by simpa using h) hj]
    simp [List.getD]
/-- a row of the document's lines in the making -/
def OwnRl (w : World) (base : Nat) (v : Value) (L : List Rl) : Prop := w.ownsRow base 68 9 v L.length (L.flatMap Rl.enc)
theorem ownrl_read {w : World} {base : Nat} {v : Value} {L : List Rl} (h : OwnRl w base v L) : ∃ p c, v = .slice p L.length c ∧ L.length ≤ c ∧ IsRl w base p L := by
  obtain ⟨h1, h2 | ⟨g, cap, cur, e1, e2, e3, e4, e5, e6, e7⟩⟩ := h
  · refine ⟨none, 0, by rw [h2.1, h2.2], by rw [h2.2]; exact Nat.le_refl _, fun i hi => ?_⟩
    rw [h2.2] at hi; exact absurd hi (Nat.not_lt_zero _)
  · refine ⟨_, cap, e1, e4, fun i hi => ⟨g, rfl, e2, (Array.getElem?_eq_some_iff.1 e3).1, fun j x hx => ?_⟩⟩
    have hj : j < 9 := (List.getElem?_eq_some_iff.1 hx).1
    rw [Go.Joins.cell_of_block e3 _]
    have : (cur.toList.take (L.length * 9))[i * 9 + j]? = (L.flatMap Rl.enc)[i * 9 + j]? := by rw [e7]
    rw [List.getElem?_take, if_pos (by omega), Array.getElem?_toList, flatl_enc L i j hi hj] at this
    rw [this]; exact hx
theorem OwnRl.next {w : World} {base : Nat} {v : Value} {L : List Rl} {r : Rl} (h : w.ownsRow base 68 9 v (L.length + 1) (L.flatMap Rl.enc ++ r.enc)) : OwnRl w base v (L ++ [r]) := by
  unfold OwnRl; simpa [List.flatMap_append] using h
theorem startrl (w : World) : OwnRl (w.alloc (.cells #[] 68)) w.heap.size (.slice (some ⟨w.heap.size, 0, none⟩) 0 0) [] := ⟨rfl, Or.inr ⟨w.heap.size, 0, #[], rfl, Nat.le_refl _, own1 w _, by simp, by simp, rfl, rfl⟩⟩
set_option maxHeartbeats 1000000 in
theorem rfits_any (r : Rl) (tag page : Int) (w : World) : Calls Try.prog 41 #[r.val, .int .i64 tag, .int .i64 page] w fun e w' => e = .returned (.bool (r.fits tag page)) ∧ Below w.heap.size w w' := by
  obtain ⟨ry, rt, rp, rf, rw, ru, rx, rg, rd⟩ := r
  unfold Rl.fits
  simp only
  by_cases c1 : rp = page
  · have d1 : (rp == page) = true := by simp [c1]
    cases rg
    · by_cases c2 : rt = tag
      · have d2 : (rt == tag) = true := by simp [c2]
        go_enter Try.func41, Try.ntmps41
        go_wp2_with fail
        go_ret
        exact ⟨by simp [d1, d2], Go.Joins.below_alloc1 _ _⟩
      · have d2 : (rt == tag) = false := by simp [c2]
        go_enter Try.func41, Try.ntmps41
        go_wp2_with fail
        go_ret
        exact ⟨by simp [d1, d2], Go.Joins.below_alloc1 _ _⟩
    · go_enter Try.func41, Try.ntmps41
      go_wp2_with fail
      go_ret
      exact ⟨by simp [d1], Go.Joins.below_alloc1 _ _⟩
  · have d1 : (rp == page) = false := by simp [c1]
    go_enter Try.func41, Try.ntmps41
    go_wp2_with fail
    go_ret
    exact ⟨by simp [d1], Go.Joins.below_alloc1 _ _⟩
set_option maxHeartbeats 2000000 in
theorem rbefore_any (a b : Rl) (w : World) : Calls Try.prog 45 #[a.val, b.val] w fun e w' => e = .returned (.bool (a.before b)) ∧ Below w.heap.size w w' := by
  obtain ⟨ay, at', ap, af, aw, au, ax, ag, ad⟩ := a
  obtain ⟨by', bt, bp, bf, bw, bu, bx, bg, bd⟩ := b
  unfold Rl.before
  simp only
  obtain ⟨am, ham⟩ : ∃ z, ap.tmod 8 = z := ⟨_, rfl⟩
  obtain ⟨bm, hbm⟩ : ∃ z, bp.tmod 8 = z := ⟨_, rfl⟩
  rw [ham, hbm]
  by_cases c1 : am < bm
  · have d1 : decide (am < bm) = true := by simp [c1]
    go_enter Try.func45, Try.ntmps45
    go_wp2_with fail
    go_ret
    exact ⟨by simp [d1], Go.Joins.below_alloc2 _ _ _⟩
  · have d1 : decide (am < bm) = false := by simp; omega
    by_cases c2 : am = bm
    · have d2 : (am == bm) = true := by simp [c2]
      have hbm2 : bp.tmod 8 = am := by rw [c2]; exact hbm
      subst c2
      by_cases c3 : ay < by'
      · have d3 : decide (ay < by') = true := by simp [c3]
        go_enter Try.func45, Try.ntmps45
        go_wp2_with fail
        go_ret
        exact ⟨by simp [d1, d3], Go.Joins.below_alloc2 _ _ _⟩
      · have d3 : decide (ay < by') = false := by simp; omega
        go_enter Try.func45, Try.ntmps45
        go_wp2_with fail
        go_ret
        exact ⟨by simp [d1, d3], Go.Joins.below_alloc2 _ _ _⟩
    · have d2 : (am == bm) = false := by simp [c2]
      go_enter Try.func45, Try.ntmps45
      go_wp2_with fail
      go_ret
      exact ⟨by simp [d1, d2], Go.Joins.below_alloc2 _ _ _⟩
end Go.Proofs.Ytihedjlcjkbjfaa
