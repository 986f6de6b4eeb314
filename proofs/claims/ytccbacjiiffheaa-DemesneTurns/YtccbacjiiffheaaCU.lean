/- Words that come in by the list; turns. -/
import Derived.Test.YtccbacjiiffheaaCR
import Derived.Test.YtccbacjiiffheaaHR
namespace Go.Proofs.Ytccbacjiiffheaa
open Go.ChangeShapes Go.WideShapes Go.ChangeAt Go.RowKit Go.Maps
set_option linter.unusedSimpArgs false
set_option linter.unusedVariables false

theorem lt_of_cell {w : World} {a : Addr} {v : Value} (h : w.cell? a = some v) : a.block < w.heap.size := by
  unfold World.cell? at h
  by_cases c : a.block < w.heap.size
  · exact c
  · rw [Array.getElem?_eq_none (by omega)] at h
    simp at h
/-- the slice's words -/
def IsWds (w : World) (p : Option Addr) (n : Nat) (D : Nat → Wd) : Prop := ∀ i, i < n → (D i).wf ∧ ∃ b o, p = some ⟨b, o, none⟩ ∧ b < w.heap.size ∧ ∀ j, j < 6 → w.cell? ⟨b, o + i * 6 + j, none⟩ = some (.int .u64 ((D i).at j))
theorem open_wds {H : Type} {enc : TypeId × Value → H} {W : World} {base : Nat} {sp : Nat → Bool} {held : Bool} {v : Value} {x : DataW H} {ps : List MemPlace} {r : Reach} {b0 : Nat}
    (hv : Value.okWide Try.prog W r b0 49 v) (h : DataW.Trod enc Try.prog W base sp held 49 v x ps) :
    ∃ (p : Option Addr) (n c : Nat) (D : Nat → Wd), v = .slice p n c ∧ n ≤ maxLen ∧ IsWds W p n D := by
  obtain ⟨a', l', c', rfl⟩ := okWide_slice Try.underlying49 hv
  obtain ⟨fuel, hf⟩ := h
  rcases Go.Deep.open_slice Try.underlying49 hf with ⟨e, _⟩ | ⟨a, len, cap, m, k, D, Pl, e, hb, hl, hm, hmm, hx, hel⟩
  · have e' : Value.slice a' l' c' = .slice none 0 0 := (List.cons.inj (show [Value.slice a' l' c'] = [.slice none 0 0] from e)).1
    exact ⟨none, 0, 0, fun _ => ⟨0, 0, 0, 0, 0, 0⟩, e', by omega, fun i hi => absurd hi (Nat.not_lt_zero _)⟩
  · have e' : Value.slice a' l' c' = .slice (some a) len cap := (List.cons.inj (show [Value.slice a' l' c'] = [.slice (some a) len cap] from e)).1
    have hlm : len ≤ m := by rw [hmm]; split <;> omega
    rw [e']
    have each : ∀ i, i < len → ∃ q : Wd, q.wf ∧ a.spot = none ∧ a.block < W.heap.size ∧ ∀ j, j < 6 → W.cell? ⟨a.block, a.off + i * 6 + j, none⟩ = some (.int .u64 (q.at j)) := fun i hi => by
      obtain ⟨cs', h1, h2⟩ := hel i (by omega)
      obtain ⟨c2', h3, _⟩ := hel 0 (by omega)
      rw [cellsW] at h1 h3
      obtain ⟨_, hlen, hcell⟩ := World.cells?_some h1
      obtain ⟨_, hlen3, hcell3⟩ := World.cells?_some h3
      have hspot : a.spot = none := by
        have := hcell3 0 (by omega)
        simpa [Addr.add] using World.cell?_spot (this.trans (List.getElem?_eq_getElem (by omega)))
      obtain ⟨a0, a1, a2, a3, a4, a5, ec, w0, w1, w2, w3, w4, w5⟩ := words_cells h2 hlen
      have ad : ∀ j, (a.add (i * 6)).add j = ⟨a.block, a.off + i * 6 + j, none⟩ := fun j => by
        rw [Go.Deep.add_add]
        unfold Addr.add
        by_cases c : i * 6 + j = 0
        · rw [if_pos c]
          have : i * 6 = 0 ∧ j = 0 := by omega
          obtain ⟨bb, oo, ss⟩ := a
          simp only at hspot
          subst hspot
          simp [this.1, this.2]
        · rw [if_neg c]; simp; try omega
      have cc : ∀ j, j < 6 → W.cell? ⟨a.block, a.off + i * 6 + j, none⟩ = some (.int .u64 ((Wd.mk a0 a1 a2 a3 a4 a5).at j)) := fun j hj => by
        have := hcell j (by omega)
        rw [ad, ec] at this
        rw [this]
        match j, hj with
        | 0, _ => rfl
        | 1, _ => rfl
        | 2, _ => rfl
        | 3, _ => rfl
        | 4, _ => rfl
        | 5, _ => rfl
      exact ⟨⟨a0, a1, a2, a3, a4, a5⟩, wd_wf w0 w1 w2 w3 w4 w5, hspot, (by have := lt_of_cell (cc 0 (by omega)); exact this), cc⟩
    haveI : Inhabited Wd := ⟨⟨0, 0, 0, 0, 0, 0⟩⟩
    obtain ⟨q, hq⟩ := Go.Deep.choose_lt each
    refine ⟨some a, len, cap, q, rfl, by omega, fun i hi => ?_⟩
    obtain ⟨wf, s, l, c1⟩ := hq i hi
    obtain ⟨bb, oo, ss⟩ := a
    simp only at s
    subst s
    exact ⟨wf, bb, oo, rfl, l, c1⟩
/-- who waits behind the first k calls of Add -/
def upL (k : Nat) : List Int := (List.range k).map (fun i : Nat => (i : Int))
theorem up_len (k : Nat) : (upL k).length = k := by simp [upL]
theorem up_at (k i : Nat) (h : i < (upL k).length) : (upL k)[i] = (i : Int) := by simp [upL]
theorem up_add (a0 : Int) (k : Nat) (h : k < 16) : addS ⟨a0, 0, upL k⟩ (k : Int) = ⟨a0, 0, upL (k + 1)⟩ := by
  have c : ¬ ((k : Int) < 0 ∨ 16 ≤ (k : Int)) := by omega
  have n : (k : Int) ∉ upL k := by simp [upL]; intro x hx; omega
  rw [addS, if_neg c, if_neg n]
  simp [upL, List.range_succ]
theorem tck_L (S : Qu) : (tckS S).L = if tckB S = true then ylL S.L else S.L := by
  have Y := yld_L S
  unfold tckS tckB
  obtain ⟨q, t, L⟩ := S
  cases L with
  | nil => rfl
  | cons x r =>
    by_cases c : t + 1 < q
    · simp [c, nowB]
    · simp only [nowB, c, if_false]; simp; exact Y
theorem now_up (n t : Nat) (h : 0 < n) : nowV (rotN (upL n) t) = ((t % n : Nat) : Int) ∧ nowB (rotN (upL n) t) = true := by
  obtain ⟨v1, v2⟩ := rot_now (upL n) t (by rw [up_len]; exact h)
  refine ⟨?_, v2⟩
  rw [v1, up_at, up_len]
theorem says_yield : Says ⟨14, 0, 0, 0, 0, 0⟩ ⟨14, 0, 0, false, false, false, 0, 0, 0, 0, 0, 0, 0⟩ := ⟨1, by decide, fun i h1 h2 => by
  have : i = 1 ∨ i = 2 ∨ i = 3 ∨ i = 4 ∨ i = 5 := by omega
  rcases this with rfl | rfl | rfl | rfl | rfl <;> rfl⟩
end Go.Proofs.Ytccbacjiiffheaa
