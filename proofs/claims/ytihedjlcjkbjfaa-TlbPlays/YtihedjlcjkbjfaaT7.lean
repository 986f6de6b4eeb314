/- The translations' store: Lines. -/
import Derived.Test.YtihedjlcjkbjfaaT6
import Derived.OwnWalk
import Derived.Laws.AppendOwn
namespace Go.Proofs.Ytihedjlcjkbjfaa
open Go.ChangeShapes Go.WideShapes Go.ChangeAt Go.RowKit Go.Maps
set_option linter.unusedSimpArgs false
set_option linter.unusedVariables false
set_option maxRecDepth 8000

/-- all cells of a store -/
def flatT (T : Nat → Ln) : List Value := [.bool (T (0)).v, .int .i64 (T (0)).t, .int .i64 (T (0)).p, .int .i64 (T (0)).f, .bool (T (0)).w, .bool (T (0)).u, .bool (T (0)).x, .bool (T (0)).g, .bool (T (0)).d, .bool (T (1)).v, .int .i64 (T (1)).t, .int .i64 (T (1)).p, .int .i64 (T (1)).f, .bool (T (1)).w, .bool (T (1)).u, .bool (T (1)).x, .bool (T (1)).g, .bool (T (1)).d, .bool (T (2)).v, .int .i64 (T (2)).t, .int .i64 (T (2)).p, .int .i64 (T (2)).f, .bool (T (2)).w, .bool (T (2)).u, .bool (T (2)).x, .bool (T (2)).g, .bool (T (2)).d, .bool (T (3)).v, .int .i64 (T (3)).t, .int .i64 (T (3)).p, .int .i64 (T (3)).f, .bool (T (3)).w, .bool (T (3)).u, .bool (T (3)).x, .bool (T (3)).g, .bool (T (3)).d, .bool (T (4)).v, .int .i64 (T (4)).t, .int .i64 (T (4)).p, .int .i64 (T (4)).f, .bool (T (4)).w, .bool (T (4)).u, .bool (T (4)).x, .bool (T (4)).g, .bool (T (4)).d, .bool (T (5)).v, .int .i64 (T (5)).t, .int .i64 (T (5)).p, .int .i64 (T (5)).f, .bool (T (5)).w, .bool (T (5)).u, .bool (T (5)).x, .bool (T (5)).g, .bool (T (5)).d, .bool (T (6)).v, .int .i64 (T (6)).t, .int .i64 (T (6)).p, .int .i64 (T (6)).f, .bool (T (6)).w, .bool (T (6)).u, .bool (T (6)).x, .bool (T (6)).g, .bool (T (6)).d, .bool (T (7)).v, .int .i64 (T (7)).t, .int .i64 (T (7)).p, .int .i64 (T (7)).f, .bool (T (7)).w, .bool (T (7)).u, .bool (T (7)).x, .bool (T (7)).g, .bool (T (7)).d, .bool (T (8)).v, .int .i64 (T (8)).t, .int .i64 (T (8)).p, .int .i64 (T (8)).f, .bool (T (8)).w, .bool (T (8)).u, .bool (T (8)).x, .bool (T (8)).g, .bool (T (8)).d, .bool (T (9)).v, .int .i64 (T (9)).t, .int .i64 (T (9)).p, .int .i64 (T (9)).f, .bool (T (9)).w, .bool (T (9)).u, .bool (T (9)).x, .bool (T (9)).g, .bool (T (9)).d, .bool (T (10)).v, .int .i64 (T (10)).t, .int .i64 (T (10)).p, .int .i64 (T (10)).f, .bool (T (10)).w, .bool (T (10)).u, .bool (T (10)).x, .bool (T (10)).g, .bool (T (10)).d, .bool (T (11)).v, .int .i64 (T (11)).t, .int .i64 (T (11)).p, .int .i64 (T (11)).f, .bool (T (11)).w, .bool (T (11)).u, .bool (T (11)).x, .bool (T (11)).g, .bool (T (11)).d, .bool (T (12)).v, .int .i64 (T (12)).t, .int .i64 (T (12)).p, .int .i64 (T (12)).f, .bool (T (12)).w, .bool (T (12)).u, .bool (T (12)).x, .bool (T (12)).g, .bool (T (12)).d, .bool (T (13)).v, .int .i64 (T (13)).t, .int .i64 (T (13)).p, .int .i64 (T (13)).f, .bool (T (13)).w, .bool (T (13)).u, .bool (T (13)).x, .bool (T (13)).g, .bool (T (13)).d, .bool (T (14)).v, .int .i64 (T (14)).t, .int .i64 (T (14)).p, .int .i64 (T (14)).f, .bool (T (14)).w, .bool (T (14)).u, .bool (T (14)).x, .bool (T (14)).g, .bool (T (14)).d, .bool (T (15)).v, .int .i64 (T (15)).t, .int .i64 (T (15)).p, .int .i64 (T (15)).f, .bool (T (15)).w, .bool (T (15)).u, .bool (T (15)).x, .bool (T (15)).g, .bool (T (15)).d]
theorem flat_range {w : World} {b : Nat} {T : Nat → Ln} (h : IsTlb w b T) : w.rangeAt b 0 (flatT T) := by
  intro j v hv
  have hj : j < 144 := (List.getElem?_eq_some_iff.1 hv).1
  have hd : j = j / 9 * 9 + j % 9 := by omega
  have := h.1 (j / 9) (by omega) (j % 9) v
  rw [Nat.zero_add]
  rw [← hd] at this
  refine this ?_
  rw [← hv]
  clear this hv
  generalize hq : j / 9 = q at hd
  generalize hr : j % 9 = r at hd
  have q16 : q < 16 := by omega
  have r9 : r < 9 := by omega
  subst hd
  clear hq hr hj
  rcases (show q = 0 ∨ q = 1 ∨ q = 2 ∨ q = 3 ∨ q = 4 ∨ q = 5 ∨ q = 6 ∨ q = 7 ∨ q = 8 ∨ q = 9 ∨ q = 10 ∨ q = 11 ∨ q = 12 ∨ q = 13 ∨ q = 14 ∨ q = 15 by omega) with rfl | rfl | rfl | rfl | rfl | rfl | rfl | rfl | rfl | rfl | rfl | rfl | rfl | rfl | rfl | rfl <;> rcases (show r = 0 ∨ r = 1 ∨ r = 2 ∨ r = 3 ∨ r = 4 ∨ r = 5 ∨ r = 6 ∨ r = 7 ∨ r = 8 by omega) with rfl | rfl | rfl | rfl | rfl | rfl | rfl | rfl | rfl <;> rfl
theorem all_info : (Try.prog.info? 56).map (·.size) = some 144 := by kernel_rfl
theorem ixk (T : Nat → Ln) (k : Nat) (hk : k < 8) (W : World) : (Instr.index 56 (.agg (flatT T).toArray) (.int .i64 k)).run Try.prog W = .ok (.agg #[.bool (T (2 * k)).v, .int .i64 (T (2 * k)).t, .int .i64 (T (2 * k)).p, .int .i64 (T (2 * k)).f, .bool (T (2 * k)).w, .bool (T (2 * k)).u, .bool (T (2 * k)).x, .bool (T (2 * k)).g, .bool (T (2 * k)).d, .bool (T (2 * k + 1)).v, .int .i64 (T (2 * k + 1)).t, .int .i64 (T (2 * k + 1)).p, .int .i64 (T (2 * k + 1)).f, .bool (T (2 * k + 1)).w, .bool (T (2 * k + 1)).u, .bool (T (2 * k + 1)).x, .bool (T (2 * k + 1)).g, .bool (T (2 * k + 1)).d]) W := by
  rcases (show k = 0 ∨ k = 1 ∨ k = 2 ∨ k = 3 ∨ k = 4 ∨ k = 5 ∨ k = 6 ∨ k = 7 by omega) with rfl | rfl | rfl | rfl | rfl | rfl | rfl | rfl
  · kernel_rfl
  · kernel_rfl
  · kernel_rfl
  · kernel_rfl
  · kernel_rfl
  · kernel_rfl
  · kernel_rfl
  · kernel_rfl
def zline : Value := .agg #[.bool false, .int .i64 0, .int .i64 0, .int .i64 0, .bool false, .bool false, .bool false, .bool false, .bool false]
theorem line_info5 : (Try.prog.info? 54).map (fun i => (i.zero, i.size, i.bytes)) = some (some zline, 9, 40) := by kernel_rfl
theorem info5 {P : Program} {e : TypeId} {z : Value} {s b : Nat} (h : (P.info? e).map (fun i => (i.zero, i.size, i.bytes)) = some (some z, s, b)) : ∃ i : TypeInfo, P.info? e = some i ∧ i.zero = some z ∧ i.size = s ∧ i.bytes = b := by
  cases hq : P.info? e with
  | none => simp [hq] at h
  | some i =>
    simp [hq] at h
    exact ⟨i, rfl, h.1, h.2.1, h.2.2⟩
theorem own_keep {w w' : World} {base n e s : Nat} {v : Value} {xs : List Value} (h : w.ownsRow base e s v n xs) (hb : Below w.heap.size w w') : w'.ownsRow base e s v n xs := by
  obtain ⟨h1, h2⟩ := h
  refine ⟨h1, ?_⟩
  rcases h2 with h2 | ⟨g', cap', cur, e1, e2, e3, e4⟩
  · exact Or.inl h2
  · have hg' : g' < w.heap.size := (Array.getElem?_eq_some_iff.1 e3).1
    exact Or.inr ⟨g', cap', cur, e1, e2, (hb.block g' hg').trans e3, e4⟩
theorem own_base {w : World} {base n e s : Nat} {v : Value} {xs : List Value} (h : w.ownsRow base e s v n xs) : ∀ j, v.ownBlock = some j → base ≤ j := by
  obtain ⟨h1, h2⟩ := h
  rcases h2 with h2 | ⟨g', cap', cur, e1, e2, e3, e4⟩
  · rw [h2.1]; intro j hj; cases hj
  · rw [e1]; intro j hj; cases hj; exact e2
theorem news_cells (u : World) (o : Obj) (C : Array Value) (t : TypeId) : ∀ j x, C.toList[j]? = some x → ((u.alloc o).alloc (.cells C t)).cell? ((⟨u.heap.size + 1, 0, none⟩ : Addr).add j) = some x := by
  intro j x hx
  rw [Addr.add_mid, Nat.zero_add]
  exact (Go.Joins.cell_of_block (own2b u o (.cells C t)) j).trans (by simpa using hx)
def linesT (T : Nat → Ln) : Nat → List Ln
  | 0 => []
  | m + 1 => linesT T m ++ (if (T m).v then [T m] else [])
theorem lines_len (T : Nat → Ln) : ∀ m, (linesT T m).length ≤ m
  | 0 => by simp [linesT]
  | m + 1 => by
    have := lines_len T m
    simp only [linesT, List.length_append]
    split <;> simp <;> omega
theorem lines_yes (T : Nat → Ln) (m : Nat) (h : (T m).v = true) : linesT T (m + 1) = linesT T m ++ [T m] := by simp [linesT, h]
theorem lines_no (T : Nat → Ln) (m : Nat) (h : (T m).v = false) : linesT T (m + 1) = linesT T m := by simp [linesT, h]
theorem flat_snoc (l : List Ln) (x : Ln) : (l ++ [x]).flatMap Ln.enc = l.flatMap Ln.enc ++ x.enc := by simp
end Go.Proofs.Ytihedjlcjkbjfaa
