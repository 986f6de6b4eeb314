/- Boot maps: what the laws make of what comes in. -/
import Derived.Test.YtpfcpmhpekidkaaOD
namespace Go.Proofs.Ytpfcpmhpekidkaa.Bm
open Go.ChangeShapes Go.WideShapes Go.ChangeAt Go.RowKit Go.Maps
set_option linter.unusedSimpArgs false
set_option linter.unusedVariables false
set_option maxRecDepth 8000

variable {α : Type}
theorem app_none (t ty : TypeId) (i : TypeInfo) (z : Value) (e : TypeId) (ht : Try.prog.underlying t = some (.slice e)) (hi : Try.prog.info? e = some i) (hz : i.zero = some z) (w : World) (a : Addr) (c : Nat) : (Builtin.append_ #[t, t] ty #[.slice (some a) 0 0, .slice none 0 c]).run Try.prog w = .ok (.slice (some a) 0 0) w := by
  simp [Builtin.append_, run_underlying ht, sizeOf, typeInfo, zeroValue, hi, hz, Builtin.lenOf, Builtin.firstCells, storeCells]
/-- elements that lie where a slice points -/
def Src (k : Nat) (enc : α → List Value) (w : World) (p : Option Addr) (M : List α) : Prop := ∀ i (hi : i < M.length), ∃ g o, p = some ⟨g, o, none⟩ ∧ g < w.heap.size ∧ ∀ j, j < k → w.cell? ⟨g, o + i * k + j, none⟩ = (enc M[i])[j]?
/-- append([]T{}, l...) -/
theorem app_copy {k : Nat} {enc : α → List Value} (hk : ∀ x, (enc x).length = k) (h1 : ∀ x, ∀ u ∈ enc x, u.oneCell' = true) (k0 : 0 < k) {T S : TypeId} {z : Value} {bytes : Nat} (hS : Try.prog.underlying S = some (.slice T)) (hI : ∃ i, Try.prog.info? T = some i ∧ i.zero = some z ∧ i.size = k ∧ i.bytes = bytes) (hz : z.cells.size = k) (hb8 : bytes ≤ 100)
    (p : Option Addr) (m c : Nat) (M : List α) (hm : m = M.length) (hL : M.length ≤ 1048576) (w : World) (H : Src k enc w p M) :
    ∃ g c' W2, (Builtin.append_ #[S, S] S #[.slice (some ⟨w.heap.size, 0, none⟩) 0 0, .slice p m c]).run Try.prog (w.alloc (.cells #[] T)) = .ok (.slice (some ⟨g, 0, none⟩) m c') W2 ∧ OL T k enc W2 w.heap.size (.slice (some ⟨g, 0, none⟩) m c') M ∧ Below w.heap.size w W2 := by
  subst hm
  have B0 : Below w.heap.size w (w.alloc (.cells #[] T)) := Go.Joins.below_alloc1 _ _
  have O0 : OL T k enc (w.alloc (.cells #[] T)) w.heap.size (.slice (some ⟨w.heap.size, 0, none⟩) 0 0) [] := ol_made w _ (Nat.le_refl _)
  have fin : ∀ (v' : Value) (W2 : World), OL T k enc W2 w.heap.size v' ([] ++ M) → (w.alloc (.cells #[] T)).grownBy W2 (Value.slice (some ⟨w.heap.size, 0, none⟩) 0 0).ownBlock → v' ≠ .slice none 0 0 → (∃ g c', v' = .slice (some ⟨g, 0, none⟩) M.length c') ∧ OL T k enc W2 w.heap.size v' M ∧ Below w.heap.size w W2 := fun v' W2 ho hg hn => by
    rw [List.nil_append] at ho
    refine ⟨?_, ho, B0.grown hg B0.size (fun j e => by cases e; exact Nat.le_refl _)⟩
    obtain ⟨_, ⟨e, _⟩ | ⟨g, cap, _, e, _⟩⟩ := ho
    · exact absurd e hn
    · exact ⟨g, cap, e⟩
  cases M with
  | nil =>
    cases p with
    | none =>
      obtain ⟨i0, hi, hz0, _⟩ := hI
      exact ⟨_, 0, _, app_none S S i0 z T hS hi hz0 _ _ c, O0, B0⟩
    | some a =>
      obtain ⟨i0, hi, hz0, hz1, hz2⟩ := hI
      obtain ⟨v', W2, r, ho, hg, hn, _⟩ := run_append_own_at (P := Try.prog) (w.alloc (.cells #[] T)) w.heap.size S S T i0 z k bytes hS hi hz0 hz1 hz2 hz k0 (.slice (some ⟨w.heap.size, 0, none⟩) 0 0) 0 [] O0 a 0 c [] (by simp) (fun j u hu => by simp at hu) (fun u hu => absurd hu List.not_mem_nil) (by unfold maxLen; omega) (by simp) B0.size
      obtain ⟨⟨g, c', rfl⟩, h2, h3⟩ := fin v' W2 (by show W2.ownsRow _ _ _ _ _ _; simpa using ho) hg (fun e => by have := (hn.1 e).1; cases this)
      exact ⟨g, c', W2, r, h2, h3⟩
  | cons x M =>
    obtain ⟨g, o, rfl, lg, _⟩ := H 0 (by simp)
    have hM : ∀ i (hi : i < (x :: M).length), ∀ j, j < k → (w.alloc (.cells #[] T)).cell? ⟨g, o + i * k + j, none⟩ = (enc (x :: M)[i])[j]? := fun i hi j hj => by
      obtain ⟨g', o', e, _, h⟩ := H i hi
      cases e
      rw [World.cell?_alloc_past _ _ _ lg]; exact h j hj
    obtain ⟨v', W2, r, ho, hg, hat⟩ := app_all hk h1 k0 hS hI hz hb8 w.heap.size (.slice (some ⟨w.heap.size, 0, none⟩) 0 0) [] (x :: M) g o _ c rfl (by simpa using hL) _ O0 hM B0.size
    obtain ⟨⟨g2, c', rfl⟩, h2, h3⟩ := fin v' W2 ho hg (fun e => by
      subst e
      obtain ⟨hl, ⟨_, h0⟩ | ⟨_, _, _, e, _⟩⟩ := ho
      · simp at h0
      · cases e)
    exact ⟨g2, c', W2, r, h2, h3⟩
theorem Src.take {k : Nat} {enc : α → List Value} {w : World} {p : Option Addr} {M : List α} (H : Src k enc w p M) (m : Nat) : Src k enc w p (M.take m) := fun i hi => by
  have hi2 : i < M.length := by rw [List.length_take] at hi; omega
  obtain ⟨g, o, e, l, h⟩ := H i hi2
  exact ⟨g, o, e, l, fun j hj => by rw [List.getElem_take]; exact h j hj⟩
theorem Src.below {k : Nat} {enc : α → List Value} {w W : World} {p : Option Addr} {M : List α} (H : Src k enc w p M) (hb : Below w.heap.size w W) : Src k enc W p M := fun i hi => by
  obtain ⟨g, o, e, l, h⟩ := H i hi
  exact ⟨g, o, e, Nat.lt_of_lt_of_le l hb.size, fun j hj => (World.cell?_of_block (hb.block g l)).trans (h j hj)⟩
set_option maxHeartbeats 1000000 in
theorem cut_any (p : Option Addr) (n c : Nat) (L : List Int) (hn : n = L.length) (nc : n ≤ c) (w : World) (H : Src 1 eB w p L) :
    Calls Try.prog 5 #[.slice p n c] w fun e w' => ∃ g c', e = .returned (.slice (some ⟨g, 0, none⟩) (L.take 1400).length c') ∧ OL 5 1 eB w' w.heap.size (.slice (some ⟨g, 0, none⟩) (L.take 1400).length c') (L.take 1400) ∧ Below w.heap.size w w' := by
  by_cases cn : 1400 < n
  · have d1 : decide ((1400 : Int) < (n : Int)) = true := decide_eq_true (by omega)
    have hm : 1400 = (L.take 1400).length := by rw [List.length_take]; omega
    obtain ⟨g, c', W2, r, ho, hb⟩ := app_copy eB_len eB_one (by decide) Try.underlying22 infoB rfl (by decide) p 1400 c (L.take 1400) hm (by omega) w (H.take 1400)
    have HO : Hid (OL 5 1 eB W2 w.heap.size (.slice (some ⟨g, 0, none⟩) 1400 c') (L.take 1400) ∧ Below w.heap.size w W2) := ⟨ho, hb⟩
    have d2 : decide ((1400 : Int) ≤ (c : Int)) = true := decide_eq_true (by omega)
    have d3 : ¬ ((c : Int) < 1400) := by omega
    rw [← hm]
    clear ho hb H hm hn
    go_enter Try.func5, Try.ntmps5
    go_wp2_with (at_builtin; refine wpList_app rfl _ _ 22 rfl (.slice (some ⟨w.heap.size, 0, none⟩) 0 0) (.slice p 1400 c) rfl rfl (.slice (some ⟨g, 0, none⟩) 1400 c') W2 r ?_)
    go_ret
    exact ⟨g, c', rfl, HO.out⟩
  · have d1 : decide ((1400 : Int) < (n : Int)) = false := decide_eq_false (by omega)
    obtain ⟨g, c', W2, r, ho, hb⟩ := app_copy eB_len eB_one (by decide) Try.underlying22 infoB rfl (by decide) p n c L hn (by omega) w H
    rw [List.take_of_length_le (by omega), ← hn]
    have HO : Hid (OL 5 1 eB W2 w.heap.size (.slice (some ⟨g, 0, none⟩) n c') L ∧ Below w.heap.size w W2) := ⟨ho, hb⟩
    clear ho hb H hn
    go_enter Try.func5, Try.ntmps5
    go_wp2_with (at_builtin; refine wpList_app rfl _ _ 22 rfl (.slice (some ⟨w.heap.size, 0, none⟩) 0 0) (.slice p n c) rfl rfl (.slice (some ⟨g, 0, none⟩) n c') W2 r ?_)
    go_ret
    exact ⟨g, c', rfl, HO.out⟩
end Go.Proofs.Ytpfcpmhpekidkaa.Bm
