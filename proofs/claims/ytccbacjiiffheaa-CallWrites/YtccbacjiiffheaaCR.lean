/- Write. -/
import Derived.Test.YtccbacjiiffheaaCQ
import Derived.Deep.DeepCutAuto
namespace Go.Proofs.Ytccbacjiiffheaa
open Go.ChangeShapes Go.WideShapes Go.ChangeAt Go.RowKit Go.Maps
set_option linter.unusedSimpArgs false
set_option linter.unusedVariables false

theorem uw_lo (x : Int) : 0 ≤ uw x ∧ uw x < 18446744073709551616 := ⟨Int.emod_nonneg _ (by omega), Int.emod_lt_of_pos _ (by omega)⟩
theorem spell_any (c : Cl) (w : World) : Calls Try.prog 26 #[c.val] w fun e w' => e = .returned (spellW c).val ∧ Below w.heap.size w w' := by
  obtain ⟨c0, c1, c2, c3, c4, c5, c6, c7, c8, c9, c10, c11, c12⟩ := c
  by_cases h1 : c0 = 1
  · subst h1
    cases c3 <;> cases c5
    · have e : spellW ⟨1, c1, c2, false, c4, false, c6, c7, c8, c9, c10, c11, c12⟩ = ⟨1, uw c1, (uw (IntKind.i64.wrap (c2 - c1))), 0, 0, 0⟩ := by
          have u : uw 1 = 1 := by decide
          simp only [spellW, manyV, u, bitV, reduceIte, Int.reduceEq, or_true, true_or, or_false, false_or, or_self, if_true, if_false, Bool.false_eq_true]
          try rfl
      rw [e]
      have := spell1ff c1 c2 c6 c7 c8 c9 c10 c11 c12 c4 w
      try simp only [uw_wrap, w64_wrap] at this
      exact this
    · have e : spellW ⟨1, c1, c2, false, c4, true, c6, c7, c8, c9, c10, c11, c12⟩ = ⟨1, uw c1, (uw (IntKind.i64.wrap (c2 - c1))), 2, 0, 0⟩ := by
          have u : uw 1 = 1 := by decide
          simp only [spellW, manyV, u, bitV, reduceIte, Int.reduceEq, or_true, true_or, or_false, false_or, or_self, if_true, if_false, Bool.false_eq_true]
          try rfl
      rw [e]
      have := spell1ft c1 c2 c6 c7 c8 c9 c10 c11 c12 c4 w
      try simp only [uw_wrap, w64_wrap] at this
      exact this
    · have e : spellW ⟨1, c1, c2, true, c4, false, c6, c7, c8, c9, c10, c11, c12⟩ = ⟨1, uw c1, (uw (IntKind.i64.wrap (c2 - c1))), 1, 0, 0⟩ := by
          have u : uw 1 = 1 := by decide
          simp only [spellW, manyV, u, bitV, reduceIte, Int.reduceEq, or_true, true_or, or_false, false_or, or_self, if_true, if_false, Bool.false_eq_true]
          try rfl
      rw [e]
      have := spell1tf c1 c2 c6 c7 c8 c9 c10 c11 c12 c4 w
      try simp only [uw_wrap, w64_wrap] at this
      exact this
    · have e : spellW ⟨1, c1, c2, true, c4, true, c6, c7, c8, c9, c10, c11, c12⟩ = ⟨1, uw c1, (uw (IntKind.i64.wrap (c2 - c1))), 3, 0, 0⟩ := by
          have u : uw 1 = 1 := by decide
          simp only [spellW, manyV, u, bitV, reduceIte, Int.reduceEq, or_true, true_or, or_false, false_or, or_self, if_true, if_false, Bool.false_eq_true]
          try rfl
      rw [e]
      have := spell1tt c1 c2 c6 c7 c8 c9 c10 c11 c12 c4 w
      try simp only [uw_wrap, w64_wrap] at this
      exact this
  by_cases h3 : c0 = 3
  · subst h3
    cases c3 <;> cases c5
    · have e : spellW ⟨3, c1, c2, false, c4, false, c6, c7, c8, c9, c10, c11, c12⟩ = ⟨3, uw c1, (uw (IntKind.i64.wrap (c2 - c1))), 0, 0, 0⟩ := by
          have u : uw 3 = 3 := by decide
          simp only [spellW, manyV, u, bitV, reduceIte, Int.reduceEq, or_true, true_or, or_false, false_or, or_self, if_true, if_false, Bool.false_eq_true]
          try rfl
      rw [e]
      have := spell3ff c1 c2 c6 c7 c8 c9 c10 c11 c12 c4 w
      try simp only [uw_wrap, w64_wrap] at this
      exact this
    · have e : spellW ⟨3, c1, c2, false, c4, true, c6, c7, c8, c9, c10, c11, c12⟩ = ⟨3, uw c1, (uw (IntKind.i64.wrap (c2 - c1))), 2, 0, 0⟩ := by
          have u : uw 3 = 3 := by decide
          simp only [spellW, manyV, u, bitV, reduceIte, Int.reduceEq, or_true, true_or, or_false, false_or, or_self, if_true, if_false, Bool.false_eq_true]
          try rfl
      rw [e]
      have := spell3ft c1 c2 c6 c7 c8 c9 c10 c11 c12 c4 w
      try simp only [uw_wrap, w64_wrap] at this
      exact this
    · have e : spellW ⟨3, c1, c2, true, c4, false, c6, c7, c8, c9, c10, c11, c12⟩ = ⟨3, uw c1, (uw (IntKind.i64.wrap (c2 - c1))), 1, 0, 0⟩ := by
          have u : uw 3 = 3 := by decide
          simp only [spellW, manyV, u, bitV, reduceIte, Int.reduceEq, or_true, true_or, or_false, false_or, or_self, if_true, if_false, Bool.false_eq_true]
          try rfl
      rw [e]
      have := spell3tf c1 c2 c6 c7 c8 c9 c10 c11 c12 c4 w
      try simp only [uw_wrap, w64_wrap] at this
      exact this
    · have e : spellW ⟨3, c1, c2, true, c4, true, c6, c7, c8, c9, c10, c11, c12⟩ = ⟨3, uw c1, (uw (IntKind.i64.wrap (c2 - c1))), 3, 0, 0⟩ := by
          have u : uw 3 = 3 := by decide
          simp only [spellW, manyV, u, bitV, reduceIte, Int.reduceEq, or_true, true_or, or_false, false_or, or_self, if_true, if_false, Bool.false_eq_true]
          try rfl
      rw [e]
      have := spell3tt c1 c2 c6 c7 c8 c9 c10 c11 c12 c4 w
      try simp only [uw_wrap, w64_wrap] at this
      exact this
  by_cases h6 : c0 = 6
  · subst h6
    cases c3
    · have e : spellW ⟨6, c1, c2, false, c4, c5, c6, c7, c8, c9, c10, c11, c12⟩ = ⟨6, uw c1, uw c9, 0, 0, 0⟩ := by
          have u : uw 6 = 6 := by decide
          simp only [spellW, manyV, u, bitV, reduceIte, Int.reduceEq, or_true, true_or, or_false, false_or, or_self, if_true, if_false, Bool.false_eq_true]
          try rfl
      rw [e]
      have := spell6f c1 c2 c6 c7 c8 c9 c10 c11 c12 c4 c5 w
      try simp only [uw_wrap, w64_wrap] at this
      exact this
    · have e : spellW ⟨6, c1, c2, true, c4, c5, c6, c7, c8, c9, c10, c11, c12⟩ = ⟨6, uw c1, uw c9, 1, 0, 0⟩ := by
          have u : uw 6 = 6 := by decide
          simp only [spellW, manyV, u, bitV, reduceIte, Int.reduceEq, or_true, true_or, or_false, false_or, or_self, if_true, if_false, Bool.false_eq_true]
          try rfl
      rw [e]
      have := spell6t c1 c2 c6 c7 c8 c9 c10 c11 c12 c4 c5 w
      try simp only [uw_wrap, w64_wrap] at this
      exact this
  by_cases h2 : c0 = 2
  · subst h2
    have e : spellW ⟨2, c1, c2, c3, c4, c5, c6, c7, c8, c9, c10, c11, c12⟩ = ⟨2, uw c1, (uw (IntKind.i64.wrap (c2 - c1))), 0, 0, 0⟩ := by
          have u : uw 2 = 2 := by decide
          simp only [spellW, manyV, u, bitV, reduceIte, Int.reduceEq, or_true, true_or, or_false, false_or, or_self, if_true, if_false, Bool.false_eq_true]
          try rfl
    rw [e]
    have := spell2 c1 c2 c6 c7 c8 c9 c10 c11 c12 c3 c4 c5 w
    try simp only [uw_wrap, w64_wrap] at this
    exact this
  by_cases h4 : c0 = 4
  · subst h4
    have e : spellW ⟨4, c1, c2, c3, c4, c5, c6, c7, c8, c9, c10, c11, c12⟩ = ⟨4, c6, uw c7, 0, 0, 0⟩ := by
          have u : uw 4 = 4 := by decide
          simp only [spellW, manyV, u, bitV, reduceIte, Int.reduceEq, or_true, true_or, or_false, false_or, or_self, if_true, if_false, Bool.false_eq_true]
          try rfl
    rw [e]
    have := spell4 c1 c2 c6 c7 c8 c9 c10 c11 c12 c3 c4 c5 w
    try simp only [uw_wrap, w64_wrap] at this
    exact this
  by_cases h5 : c0 = 5
  · subst h5
    have e : spellW ⟨5, c1, c2, c3, c4, c5, c6, c7, c8, c9, c10, c11, c12⟩ = ⟨5, c6, uw c7, c8, 0, 0⟩ := by
          have u : uw 5 = 5 := by decide
          simp only [spellW, manyV, u, bitV, reduceIte, Int.reduceEq, or_true, true_or, or_false, false_or, or_self, if_true, if_false, Bool.false_eq_true]
          try rfl
    rw [e]
    have := spell5 c1 c2 c6 c7 c8 c9 c10 c11 c12 c3 c4 c5 w
    try simp only [uw_wrap, w64_wrap] at this
    exact this
  by_cases h7 : c0 = 7
  · subst h7
    have e : spellW ⟨7, c1, c2, c3, c4, c5, c6, c7, c8, c9, c10, c11, c12⟩ = ⟨7, uw c9, uw c1, 0, 0, 0⟩ := by
          have u : uw 7 = 7 := by decide
          simp only [spellW, manyV, u, bitV, reduceIte, Int.reduceEq, or_true, true_or, or_false, false_or, or_self, if_true, if_false, Bool.false_eq_true]
          try rfl
    rw [e]
    have := spell7 c1 c2 c6 c7 c8 c9 c10 c11 c12 c3 c4 c5 w
    try simp only [uw_wrap, w64_wrap] at this
    exact this
  by_cases h8 : c0 = 8
  · subst h8
    have e : spellW ⟨8, c1, c2, c3, c4, c5, c6, c7, c8, c9, c10, c11, c12⟩ = ⟨8, uw c9, 0, 0, 0, 0⟩ := by
          have u : uw 8 = 8 := by decide
          simp only [spellW, manyV, u, bitV, reduceIte, Int.reduceEq, or_true, true_or, or_false, false_or, or_self, if_true, if_false, Bool.false_eq_true]
          try rfl
    rw [e]
    have := spell8 c1 c2 c6 c7 c8 c9 c10 c11 c12 c3 c4 c5 w
    try simp only [uw_wrap, w64_wrap] at this
    exact this
  by_cases h9 : c0 = 9
  · subst h9
    have e : spellW ⟨9, c1, c2, c3, c4, c5, c6, c7, c8, c9, c10, c11, c12⟩ = ⟨9, uw c9, 0, 0, 0, 0⟩ := by
          have u : uw 9 = 9 := by decide
          simp only [spellW, manyV, u, bitV, reduceIte, Int.reduceEq, or_true, true_or, or_false, false_or, or_self, if_true, if_false, Bool.false_eq_true]
          try rfl
    rw [e]
    have := spell9 c1 c2 c6 c7 c8 c9 c10 c11 c12 c3 c4 c5 w
    try simp only [uw_wrap, w64_wrap] at this
    exact this
  by_cases h12 : c0 = 12
  · subst h12
    have e : spellW ⟨12, c1, c2, c3, c4, c5, c6, c7, c8, c9, c10, c11, c12⟩ = ⟨12, uw c9, 0, 0, 0, 0⟩ := by
          have u : uw 12 = 12 := by decide
          simp only [spellW, manyV, u, bitV, reduceIte, Int.reduceEq, or_true, true_or, or_false, false_or, or_self, if_true, if_false, Bool.false_eq_true]
          try rfl
    rw [e]
    have := spell12 c1 c2 c6 c7 c8 c9 c10 c11 c12 c3 c4 c5 w
    try simp only [uw_wrap, w64_wrap] at this
    exact this
  by_cases h10 : c0 = 10
  · subst h10
    have e : spellW ⟨10, c1, c2, c3, c4, c5, c6, c7, c8, c9, c10, c11, c12⟩ = ⟨10, c6, 0, 0, 0, 0⟩ := by
          have u : uw 10 = 10 := by decide
          simp only [spellW, manyV, u, bitV, reduceIte, Int.reduceEq, or_true, true_or, or_false, false_or, or_self, if_true, if_false, Bool.false_eq_true]
          try rfl
    rw [e]
    have := spell10 c1 c2 c6 c7 c8 c9 c10 c11 c12 c3 c4 c5 w
    try simp only [uw_wrap, w64_wrap] at this
    exact this
  by_cases h15 : c0 = 15
  · subst h15
    have e : spellW ⟨15, c1, c2, c3, c4, c5, c6, c7, c8, c9, c10, c11, c12⟩ = ⟨15, uw (uw c9 - 1), uw c10, uw c11, uw c12, 0⟩ := by
          have u : uw 15 = 15 := by decide
          simp only [spellW, manyV, u, bitV, reduceIte, Int.reduceEq, or_true, true_or, or_false, false_or, or_self, if_true, if_false, Bool.false_eq_true]
          try rfl
    rw [e]
    have := spell15 c1 c2 c6 c7 c8 c9 c10 c11 c12 c3 c4 c5 w
    try simp only [uw_wrap, w64_wrap] at this
    exact this
  by_cases h16 : c0 = 16
  · subst h16
    have e : spellW ⟨16, c1, c2, c3, c4, c5, c6, c7, c8, c9, c10, c11, c12⟩ = ⟨16, uw c9, c8, 0, 0, 0⟩ := by
          have u : uw 16 = 16 := by decide
          simp only [spellW, manyV, u, bitV, reduceIte, Int.reduceEq, or_true, true_or, or_false, false_or, or_self, if_true, if_false, Bool.false_eq_true]
          try rfl
    rw [e]
    have := spell16 c1 c2 c6 c7 c8 c9 c10 c11 c12 c3 c4 c5 w
    try simp only [uw_wrap, w64_wrap] at this
    exact this
  have e : spellW ⟨c0, c1, c2, c3, c4, c5, c6, c7, c8, c9, c10, c11, c12⟩ = ⟨uw c0, 0, 0, 0, 0, 0⟩ := by
    simp only [spellW, h1, h2, h3, h4, h5, h6, h7, h8, h9, h10, h12, h15, h16, or_self, if_false]
  rw [e]
  have := spell0 c0 c1 c2 c6 c7 c8 c9 c10 c11 c12 c3 c4 c5 h1 h2 h3 h4 h5 h6 h7 h8 h9 h10 h12 h15 h16 w
  try simp only [uw_wrap, w64_wrap] at this
  exact this
theorem wd_lo {a0 a1 a2 a3 a4 a5 : Int} (h0 : 0 ≤ a0 ∧ a0 < 18446744073709551616) (h1 : 0 ≤ a1 ∧ a1 < 18446744073709551616) (h2 : 0 ≤ a2 ∧ a2 < 18446744073709551616) (h3 : 0 ≤ a3 ∧ a3 < 18446744073709551616) (h4 : 0 ≤ a4 ∧ a4 < 18446744073709551616) (h5 : 0 ≤ a5 ∧ a5 < 18446744073709551616) : (Wd.mk a0 a1 a2 a3 a4 a5).wf := fun k => by
  match k with
  | 0 => exact h0
  | 1 => exact h1
  | 2 => exact h2
  | 3 => exact h3
  | 4 => exact h4
  | 5 => exact h5
  | k + 6 =>
    have : (Wd.mk a0 a1 a2 a3 a4 a5).at (k + 6) = 0 := by simp [Wd.at, Wd.list]
    rw [this]; omega
theorem spell_wf {c : Cl} (h : c.wf) : (spellW c).wf := by
  have z : (0 : Int) ≤ 0 ∧ (0 : Int) < 18446744073709551616 := by omega
  have a := wf_u64 h.ad
  have x := wf_u64 h.x
  have b1 : ∀ b : Bool, 0 ≤ bitV b 1 ∧ bitV b 1 < 18446744073709551616 := fun b => by cases b <;> decide
  have b2 : ∀ b d : Bool, 0 ≤ bitV b 1 + bitV d 2 ∧ bitV b 1 + bitV d 2 < 18446744073709551616 := fun b d => by cases b <;> cases d <;> decide
  unfold spellW
  split
  · exact wd_lo (uw_lo _) (uw_lo _) (uw_lo _) (b2 _ _) z z
  split
  · exact wd_lo (uw_lo _) (uw_lo _) (uw_lo _) z z z
  split
  · exact wd_lo (uw_lo _) a (uw_lo _) z z z
  split
  · exact wd_lo (uw_lo _) a (uw_lo _) x z z
  split
  · exact wd_lo (uw_lo _) (uw_lo _) (uw_lo _) (b1 _) z z
  split
  · exact wd_lo (uw_lo _) (uw_lo _) (uw_lo _) z z z
  split
  · exact wd_lo (uw_lo _) (uw_lo _) z z z z
  split
  · exact wd_lo (uw_lo _) a z z z z
  split
  · exact wd_lo (uw_lo _) (uw_lo _) (uw_lo _) (uw_lo _) (uw_lo _) z
  split
  · exact wd_lo (uw_lo _) (uw_lo _) x z z z
  exact wd_lo (uw_lo _) z z z z z
set_option maxRecDepth 8000 in
set_option maxHeartbeats 8000000 in
theorem write1 (c0 c1 c2 c6 c7 c8 c9 c10 c11 c12 : Int) (c3 c4 c5 : Bool) (y0 y1 y2 y3 y4 y5 : Int) (w : World)
    (SPC : Hid (∀ W : World, Calls Try.prog 26 #[.agg #[.int .i64 c0, .int .i64 c1, .int .i64 c2, .bool c3, .bool c4, .bool c5, .int .u64 c6, .int .i64 c7, .int .u64 c8, .int .i64 c9, .int .i64 c10, .int .i64 c11, .int .i64 c12]] W fun e w' => e = .returned (.agg #[.int .u64 y0, .int .u64 y1, .int .u64 y2, .int .u64 y3, .int .u64 y4, .int .u64 y5]) ∧ Below W.heap.size W w'))
    (RDC : Hid (∀ W : World, Calls Try.prog 9 #[.agg #[.int .u64 y0, .int .u64 y1, .int .u64 y2, .int .u64 y3, .int .u64 y4, .int .u64 y5]] W fun e w' => e = .returned (.tuple #[.agg #[.int .i64 c0, .int .i64 c1, .int .i64 c2, .bool c3, .bool c4, .bool c5, .int .u64 c6, .int .i64 c7, .int .u64 c8, .int .i64 c9, .int .i64 c10, .int .i64 c11, .int .i64 c12], .int .i64 0]) ∧ Below W.heap.size W w')) (NE : ∀ W : World, (binOp .neq 30 (.agg #[.int .i64 c0, .int .i64 c1, .int .i64 c2, .bool c3, .bool c4, .bool c5, .int .u64 c6, .int .i64 c7, .int .u64 c8, .int .i64 c9, .int .i64 c10, .int .i64 c11, .int .i64 c12]) (.agg #[.int .i64 c0, .int .i64 c1, .int .i64 c2, .bool c3, .bool c4, .bool c5, .int .u64 c6, .int .i64 c7, .int .u64 c8, .int .i64 c9, .int .i64 c10, .int .i64 c11, .int .i64 c12])).run Try.prog W = .ok (.bool false) W) :
    Calls Try.prog 13 #[.agg #[.int .i64 c0, .int .i64 c1, .int .i64 c2, .bool c3, .bool c4, .bool c5, .int .u64 c6, .int .i64 c7, .int .u64 c8, .int .i64 c9, .int .i64 c10, .int .i64 c11, .int .i64 c12]] w fun e w' => e = .returned (.tuple #[.agg #[.int .u64 y0, .int .u64 y1, .int .u64 y2, .int .u64 y3, .int .u64 y4, .int .u64 y5], .int .i64 0]) ∧ Below w.heap.size w w' := by
  have P0 : Hid (Blk ((w.alloc (.cells #[.int .i64 c0, .int .i64 c1, .int .i64 c2, .bool c3, .bool c4, .bool c5, .int .u64 c6, .int .i64 c7, .int .u64 c8, .int .i64 c9, .int .i64 c10, .int .i64 c11, .int .i64 c12] 30)).alloc (.cells #[.int .u64 0, .int .u64 0, .int .u64 0, .int .u64 0, .int .u64 0, .int .u64 0] 24)) w.heap.size [.int .i64 c0, .int .i64 c1, .int .i64 c2, .bool c3, .bool c4, .bool c5, .int .u64 c6, .int .i64 c7, .int .u64 c8, .int .i64 c9, .int .i64 c10, .int .i64 c11, .int .i64 c12] 30) := (Blk.made w _ _).below (Go.Joins.below_alloc1 _ _)
  have Q0 : Hid (Blk ((w.alloc (.cells #[.int .i64 c0, .int .i64 c1, .int .i64 c2, .bool c3, .bool c4, .bool c5, .int .u64 c6, .int .i64 c7, .int .u64 c8, .int .i64 c9, .int .i64 c10, .int .i64 c11, .int .i64 c12] 30)).alloc (.cells #[.int .u64 0, .int .u64 0, .int .u64 0, .int .u64 0, .int .u64 0, .int .u64 0] 24)) (w.heap.size + 1) [.int .u64 0, .int .u64 0, .int .u64 0, .int .u64 0, .int .u64 0, .int .u64 0] 24) := by
    have := Blk.made (w.alloc (.cells #[.int .i64 c0, .int .i64 c1, .int .i64 c2, .bool c3, .bool c4, .bool c5, .int .u64 c6, .int .i64 c7, .int .u64 c8, .int .i64 c9, .int .i64 c10, .int .i64 c11, .int .i64 c12] 30)) [.int .u64 0, .int .u64 0, .int .u64 0, .int .u64 0, .int .u64 0, .int .u64 0] 24
    rw [World.size_alloc] at this; exact this
  go_enter Try.func13, Try.ntmps13
  go_wp2_with fail
  refine (SPC.out _).mono ?_
  rintro e u1 ⟨rfl, hb⟩
  have B1 : Hid (Below w.heap.size w u1) := below_then (Go.Joins.below_alloc2 _ _ _) hb
  have P1 : Hid (Blk u1 w.heap.size [.int .i64 c0, .int .i64 c1, .int .i64 c2, .bool c3, .bool c4, .bool c5, .int .u64 c6, .int .i64 c7, .int .u64 c8, .int .i64 c9, .int .i64 c10, .int .i64 c11, .int .i64 c12] 30) := P0.out.below hb
  have Q1 : Hid (Blk u1 (w.heap.size + 1) [.int .u64 0, .int .u64 0, .int .u64 0, .int .u64 0, .int .u64 0, .int .u64 0] 24) := Q0.out.below hb
  have nq : w.heap.size + 1 < u1.heap.size := blk_lt Q1.out
  have P2 : Hid (Blk (u1.alloc (.cells #[.int .u64 y0, .int .u64 y1, .int .u64 y2, .int .u64 y3, .int .u64 y4, .int .u64 y5] 24)) w.heap.size [.int .i64 c0, .int .i64 c1, .int .i64 c2, .bool c3, .bool c4, .bool c5, .int .u64 c6, .int .i64 c7, .int .u64 c8, .int .i64 c9, .int .i64 c10, .int .i64 c11, .int .i64 c12] 30) := P1.out.below (Go.Joins.below_alloc1 _ _)
  have Q2 : Hid (Blk (u1.alloc (.cells #[.int .u64 y0, .int .u64 y1, .int .u64 y2, .int .u64 y3, .int .u64 y4, .int .u64 y5] 24)) (w.heap.size + 1) [.int .u64 0, .int .u64 0, .int .u64 0, .int .u64 0, .int .u64 0, .int .u64 0] 24) := Q1.out.below (Go.Joins.below_alloc1 _ _)
  have Y2 : Hid (Blk (u1.alloc (.cells #[.int .u64 y0, .int .u64 y1, .int .u64 y2, .int .u64 y3, .int .u64 y4, .int .u64 y5] 24)) u1.heap.size [.int .u64 y0, .int .u64 y1, .int .u64 y2, .int .u64 y3, .int .u64 y4, .int .u64 y5] 24) := Blk.made u1 _ _
  clear hb P0 Q0 P1 Q1
  go_wp2_with fail
  refine (RDC.out _).mono ?_
  rintro e u2 ⟨rfl, hb⟩
  have B2 : Hid (Below w.heap.size w (u2.alloc (.cells #[.int .i64 c0, .int .i64 c1, .int .i64 c2, .bool c3, .bool c4, .bool c5, .int .u64 c6, .int .i64 c7, .int .u64 c8, .int .i64 c9, .int .i64 c10, .int .i64 c11, .int .i64 c12] 30))) := below_new (below_then (below_new B1.out _) hb) _
  have P3 : Hid (Blk (u2.alloc (.cells #[.int .i64 c0, .int .i64 c1, .int .i64 c2, .bool c3, .bool c4, .bool c5, .int .u64 c6, .int .i64 c7, .int .u64 c8, .int .i64 c9, .int .i64 c10, .int .i64 c11, .int .i64 c12] 30)) w.heap.size [.int .i64 c0, .int .i64 c1, .int .i64 c2, .bool c3, .bool c4, .bool c5, .int .u64 c6, .int .i64 c7, .int .u64 c8, .int .i64 c9, .int .i64 c10, .int .i64 c11, .int .i64 c12] 30) := (P2.out.below hb).below (Go.Joins.below_alloc1 _ _)
  have Q3 : Hid (Blk (u2.alloc (.cells #[.int .i64 c0, .int .i64 c1, .int .i64 c2, .bool c3, .bool c4, .bool c5, .int .u64 c6, .int .i64 c7, .int .u64 c8, .int .i64 c9, .int .i64 c10, .int .i64 c11, .int .i64 c12] 30)) (w.heap.size + 1) [.int .u64 0, .int .u64 0, .int .u64 0, .int .u64 0, .int .u64 0, .int .u64 0] 24) := (Q2.out.below hb).below (Go.Joins.below_alloc1 _ _)
  have Y3 : Hid (Blk (u2.alloc (.cells #[.int .i64 c0, .int .i64 c1, .int .i64 c2, .bool c3, .bool c4, .bool c5, .int .u64 c6, .int .i64 c7, .int .u64 c8, .int .i64 c9, .int .i64 c10, .int .i64 c11, .int .i64 c12] 30)) u1.heap.size [.int .u64 y0, .int .u64 y1, .int .u64 y2, .int .u64 y3, .int .u64 y4, .int .u64 y5] 24) := (Y2.out.below hb).below (Go.Joins.below_alloc1 _ _)
  have E3 : Hid (Blk (u2.alloc (.cells #[.int .i64 c0, .int .i64 c1, .int .i64 c2, .bool c3, .bool c4, .bool c5, .int .u64 c6, .int .i64 c7, .int .u64 c8, .int .i64 c9, .int .i64 c10, .int .i64 c11, .int .i64 c12] 30)) u2.heap.size [.int .i64 c0, .int .i64 c1, .int .i64 c2, .bool c3, .bool c4, .bool c5, .int .u64 c6, .int .i64 c7, .int .u64 c8, .int .i64 c9, .int .i64 c10, .int .i64 c11, .int .i64 c12] 30) := Blk.made u2 _ _
  clear hb P2 Q2 Y2
  go_upto_region 3 with fail
  generalize u2.alloc (.cells #[.int .i64 c0, .int .i64 c1, .int .i64 c2, .bool c3, .bool c4, .bool c5, .int .u64 c6, .int .i64 c7, .int .u64 c8, .int .i64 c9, .int .i64 c10, .int .i64 c11, .int .i64 c12] 30) = V at B2 P3 Q3 Y3 E3 ⊢
  have lp : w.heap.size < V.heap.size := blk_lt P3.out
  have lq : w.heap.size + 1 < V.heap.size := blk_lt Q3.out
  have ly : u1.heap.size < V.heap.size := blk_lt Y3.out
  have le : u2.heap.size < V.heap.size := blk_lt E3.out
  have pc0 : V.cell? ⟨w.heap.size, 0, none⟩ = some (.int .i64 c0) := P3.out.cell 0
  have pc1 : V.cell? ⟨w.heap.size, 1, none⟩ = some (.int .i64 c1) := P3.out.cell 1
  have pc2 : V.cell? ⟨w.heap.size, 2, none⟩ = some (.int .i64 c2) := P3.out.cell 2
  have pc3 : V.cell? ⟨w.heap.size, 3, none⟩ = some (.bool c3) := P3.out.cell 3
  have pc4 : V.cell? ⟨w.heap.size, 4, none⟩ = some (.bool c4) := P3.out.cell 4
  have pc5 : V.cell? ⟨w.heap.size, 5, none⟩ = some (.bool c5) := P3.out.cell 5
  have pc6 : V.cell? ⟨w.heap.size, 6, none⟩ = some (.int .u64 c6) := P3.out.cell 6
  have pc7 : V.cell? ⟨w.heap.size, 7, none⟩ = some (.int .i64 c7) := P3.out.cell 7
  have pc8 : V.cell? ⟨w.heap.size, 8, none⟩ = some (.int .u64 c8) := P3.out.cell 8
  have pc9 : V.cell? ⟨w.heap.size, 9, none⟩ = some (.int .i64 c9) := P3.out.cell 9
  have pc10 : V.cell? ⟨w.heap.size, 10, none⟩ = some (.int .i64 c10) := P3.out.cell 10
  have pc11 : V.cell? ⟨w.heap.size, 11, none⟩ = some (.int .i64 c11) := P3.out.cell 11
  have pc12 : V.cell? ⟨w.heap.size, 12, none⟩ = some (.int .i64 c12) := P3.out.cell 12
  have ec0 : V.cell? ⟨u2.heap.size, 0, none⟩ = some (.int .i64 c0) := E3.out.cell 0
  have ec1 : V.cell? ⟨u2.heap.size, 1, none⟩ = some (.int .i64 c1) := E3.out.cell 1
  have ec2 : V.cell? ⟨u2.heap.size, 2, none⟩ = some (.int .i64 c2) := E3.out.cell 2
  have ec3 : V.cell? ⟨u2.heap.size, 3, none⟩ = some (.bool c3) := E3.out.cell 3
  have ec4 : V.cell? ⟨u2.heap.size, 4, none⟩ = some (.bool c4) := E3.out.cell 4
  have ec5 : V.cell? ⟨u2.heap.size, 5, none⟩ = some (.bool c5) := E3.out.cell 5
  have ec6 : V.cell? ⟨u2.heap.size, 6, none⟩ = some (.int .u64 c6) := E3.out.cell 6
  have ec7 : V.cell? ⟨u2.heap.size, 7, none⟩ = some (.int .i64 c7) := E3.out.cell 7
  have ec8 : V.cell? ⟨u2.heap.size, 8, none⟩ = some (.int .u64 c8) := E3.out.cell 8
  have ec9 : V.cell? ⟨u2.heap.size, 9, none⟩ = some (.int .i64 c9) := E3.out.cell 9
  have ec10 : V.cell? ⟨u2.heap.size, 10, none⟩ = some (.int .i64 c10) := E3.out.cell 10
  have ec11 : V.cell? ⟨u2.heap.size, 11, none⟩ = some (.int .i64 c11) := E3.out.cell 11
  have ec12 : V.cell? ⟨u2.heap.size, 12, none⟩ = some (.int .i64 c12) := E3.out.cell 12
  have qc0 : V.cell? ⟨(w.heap.size + 1), 0, none⟩ = some (.int .u64 0) := Q3.out.cell 0
  have qf0 : V.frozen? ⟨(w.heap.size + 1), 0, none⟩ = false := Q3.out.free 0
  have qc1 : V.cell? ⟨(w.heap.size + 1), 1, none⟩ = some (.int .u64 0) := Q3.out.cell 1
  have qf1 : V.frozen? ⟨(w.heap.size + 1), 1, none⟩ = false := Q3.out.free 1
  have qc2 : V.cell? ⟨(w.heap.size + 1), 2, none⟩ = some (.int .u64 0) := Q3.out.cell 2
  have qf2 : V.frozen? ⟨(w.heap.size + 1), 2, none⟩ = false := Q3.out.free 2
  have qc3 : V.cell? ⟨(w.heap.size + 1), 3, none⟩ = some (.int .u64 0) := Q3.out.cell 3
  have qf3 : V.frozen? ⟨(w.heap.size + 1), 3, none⟩ = false := Q3.out.free 3
  have qc4 : V.cell? ⟨(w.heap.size + 1), 4, none⟩ = some (.int .u64 0) := Q3.out.cell 4
  have qf4 : V.frozen? ⟨(w.heap.size + 1), 4, none⟩ = false := Q3.out.free 4
  have qc5 : V.cell? ⟨(w.heap.size + 1), 5, none⟩ = some (.int .u64 0) := Q3.out.cell 5
  have qf5 : V.frozen? ⟨(w.heap.size + 1), 5, none⟩ = false := Q3.out.free 5
  have yc0 : V.cell? ⟨u1.heap.size, 0, none⟩ = some (.int .u64 y0) := Y3.out.cell 0
  have yc1 : V.cell? ⟨u1.heap.size, 1, none⟩ = some (.int .u64 y1) := Y3.out.cell 1
  have yc2 : V.cell? ⟨u1.heap.size, 2, none⟩ = some (.int .u64 y2) := Y3.out.cell 2
  have yc3 : V.cell? ⟨u1.heap.size, 3, none⟩ = some (.int .u64 y3) := Y3.out.cell 3
  have yc4 : V.cell? ⟨u1.heap.size, 4, none⟩ = some (.int .u64 y4) := Y3.out.cell 4
  have yc5 : V.cell? ⟨u1.heap.size, 5, none⟩ = some (.int .u64 y5) := Y3.out.cell 5
  go_wp2_with fail
  change bodyPost _ _ _ _ _ (V.setCells (w.heap.size + 1) 0 [.int .u64 y0, .int .u64 y1, .int .u64 y2, .int .u64 y3, .int .u64 y4, .int .u64 y5])
  have hr := run_loadVar_mid (P := Try.prog) (V.setCells (w.heap.size + 1) 0 [.int .u64 y0, .int .u64 y1, .int .u64 y2, .int .u64 y3, .int .u64 y4, .int .u64 y5]) (w.heap.size + 1) 0 24 [.int .u64 y0, .int .u64 y1, .int .u64 y2, .int .u64 y3, .int .u64 y4, .int .u64 y5] _ (World.rangeAt_setCells_same _ (w.heap.size + 1) 0 [.int .u64 y0, .int .u64 y1, .int .u64 y2, .int .u64 y3, .int .u64 y4, .int .u64 y5] (show V.there (w.heap.size + 1) 0 6 from Q3.out.there)) Try.underlying24 rfl words_info
  refine bodyPost_ret (v := .tuple #[.agg #[.int .u64 y0, .int .u64 y1, .int .u64 y2, .int .u64 y3, .int .u64 y4, .int .u64 y5], .int .i64 0]) ?_ rfl ⟨rfl, below_scs B2.out (by omega) _ _⟩
  exact results_pair Try.results13 _ _ _ _ _ _ rfl rfl hr
set_option maxRecDepth 8000 in
set_option maxHeartbeats 8000000 in
theorem write2 (c0 c1 c2 c6 c7 c8 c9 c10 c11 c12 : Int) (c3 c4 c5 : Bool) (y0 y1 y2 y3 y4 y5 : Int) (d0 d1 d2 d6 d7 d8 d9 d10 d11 d12 : Int) (d3 d4 d5 : Bool) (w : World)
    (SPC : Hid (∀ W : World, Calls Try.prog 26 #[.agg #[.int .i64 c0, .int .i64 c1, .int .i64 c2, .bool c3, .bool c4, .bool c5, .int .u64 c6, .int .i64 c7, .int .u64 c8, .int .i64 c9, .int .i64 c10, .int .i64 c11, .int .i64 c12]] W fun e w' => e = .returned (.agg #[.int .u64 y0, .int .u64 y1, .int .u64 y2, .int .u64 y3, .int .u64 y4, .int .u64 y5]) ∧ Below W.heap.size W w'))
    (RDC : Hid (∀ W : World, Calls Try.prog 9 #[.agg #[.int .u64 y0, .int .u64 y1, .int .u64 y2, .int .u64 y3, .int .u64 y4, .int .u64 y5]] W fun e w' => e = .returned (.tuple #[.agg #[.int .i64 d0, .int .i64 d1, .int .i64 d2, .bool d3, .bool d4, .bool d5, .int .u64 d6, .int .i64 d7, .int .u64 d8, .int .i64 d9, .int .i64 d10, .int .i64 d11, .int .i64 d12], .int .i64 0]) ∧ Below W.heap.size W w')) (NE : ∀ W : World, (binOp .neq 30 (.agg #[.int .i64 d0, .int .i64 d1, .int .i64 d2, .bool d3, .bool d4, .bool d5, .int .u64 d6, .int .i64 d7, .int .u64 d8, .int .i64 d9, .int .i64 d10, .int .i64 d11, .int .i64 d12]) (.agg #[.int .i64 c0, .int .i64 c1, .int .i64 c2, .bool c3, .bool c4, .bool c5, .int .u64 c6, .int .i64 c7, .int .u64 c8, .int .i64 c9, .int .i64 c10, .int .i64 c11, .int .i64 c12])).run Try.prog W = .ok (.bool true) W) :
    Calls Try.prog 13 #[.agg #[.int .i64 c0, .int .i64 c1, .int .i64 c2, .bool c3, .bool c4, .bool c5, .int .u64 c6, .int .i64 c7, .int .u64 c8, .int .i64 c9, .int .i64 c10, .int .i64 c11, .int .i64 c12]] w fun e w' => e = .returned (.tuple #[.agg #[.int .u64 0, .int .u64 0, .int .u64 0, .int .u64 0, .int .u64 0, .int .u64 0], .int .i64 13]) ∧ Below w.heap.size w w' := by
  have P0 : Hid (Blk ((w.alloc (.cells #[.int .i64 c0, .int .i64 c1, .int .i64 c2, .bool c3, .bool c4, .bool c5, .int .u64 c6, .int .i64 c7, .int .u64 c8, .int .i64 c9, .int .i64 c10, .int .i64 c11, .int .i64 c12] 30)).alloc (.cells #[.int .u64 0, .int .u64 0, .int .u64 0, .int .u64 0, .int .u64 0, .int .u64 0] 24)) w.heap.size [.int .i64 c0, .int .i64 c1, .int .i64 c2, .bool c3, .bool c4, .bool c5, .int .u64 c6, .int .i64 c7, .int .u64 c8, .int .i64 c9, .int .i64 c10, .int .i64 c11, .int .i64 c12] 30) := (Blk.made w _ _).below (Go.Joins.below_alloc1 _ _)
  have Q0 : Hid (Blk ((w.alloc (.cells #[.int .i64 c0, .int .i64 c1, .int .i64 c2, .bool c3, .bool c4, .bool c5, .int .u64 c6, .int .i64 c7, .int .u64 c8, .int .i64 c9, .int .i64 c10, .int .i64 c11, .int .i64 c12] 30)).alloc (.cells #[.int .u64 0, .int .u64 0, .int .u64 0, .int .u64 0, .int .u64 0, .int .u64 0] 24)) (w.heap.size + 1) [.int .u64 0, .int .u64 0, .int .u64 0, .int .u64 0, .int .u64 0, .int .u64 0] 24) := by
    have := Blk.made (w.alloc (.cells #[.int .i64 c0, .int .i64 c1, .int .i64 c2, .bool c3, .bool c4, .bool c5, .int .u64 c6, .int .i64 c7, .int .u64 c8, .int .i64 c9, .int .i64 c10, .int .i64 c11, .int .i64 c12] 30)) [.int .u64 0, .int .u64 0, .int .u64 0, .int .u64 0, .int .u64 0, .int .u64 0] 24
    rw [World.size_alloc] at this; exact this
  go_enter Try.func13, Try.ntmps13
  go_wp2_with fail
  refine (SPC.out _).mono ?_
  rintro e u1 ⟨rfl, hb⟩
  have B1 : Hid (Below w.heap.size w u1) := below_then (Go.Joins.below_alloc2 _ _ _) hb
  have P1 : Hid (Blk u1 w.heap.size [.int .i64 c0, .int .i64 c1, .int .i64 c2, .bool c3, .bool c4, .bool c5, .int .u64 c6, .int .i64 c7, .int .u64 c8, .int .i64 c9, .int .i64 c10, .int .i64 c11, .int .i64 c12] 30) := P0.out.below hb
  have Q1 : Hid (Blk u1 (w.heap.size + 1) [.int .u64 0, .int .u64 0, .int .u64 0, .int .u64 0, .int .u64 0, .int .u64 0] 24) := Q0.out.below hb
  have nq : w.heap.size + 1 < u1.heap.size := blk_lt Q1.out
  have P2 : Hid (Blk (u1.alloc (.cells #[.int .u64 y0, .int .u64 y1, .int .u64 y2, .int .u64 y3, .int .u64 y4, .int .u64 y5] 24)) w.heap.size [.int .i64 c0, .int .i64 c1, .int .i64 c2, .bool c3, .bool c4, .bool c5, .int .u64 c6, .int .i64 c7, .int .u64 c8, .int .i64 c9, .int .i64 c10, .int .i64 c11, .int .i64 c12] 30) := P1.out.below (Go.Joins.below_alloc1 _ _)
  have Q2 : Hid (Blk (u1.alloc (.cells #[.int .u64 y0, .int .u64 y1, .int .u64 y2, .int .u64 y3, .int .u64 y4, .int .u64 y5] 24)) (w.heap.size + 1) [.int .u64 0, .int .u64 0, .int .u64 0, .int .u64 0, .int .u64 0, .int .u64 0] 24) := Q1.out.below (Go.Joins.below_alloc1 _ _)
  have Y2 : Hid (Blk (u1.alloc (.cells #[.int .u64 y0, .int .u64 y1, .int .u64 y2, .int .u64 y3, .int .u64 y4, .int .u64 y5] 24)) u1.heap.size [.int .u64 y0, .int .u64 y1, .int .u64 y2, .int .u64 y3, .int .u64 y4, .int .u64 y5] 24) := Blk.made u1 _ _
  clear hb P0 Q0 P1 Q1
  go_wp2_with fail
  refine (RDC.out _).mono ?_
  rintro e u2 ⟨rfl, hb⟩
  have B2 : Hid (Below w.heap.size w (u2.alloc (.cells #[.int .i64 d0, .int .i64 d1, .int .i64 d2, .bool d3, .bool d4, .bool d5, .int .u64 d6, .int .i64 d7, .int .u64 d8, .int .i64 d9, .int .i64 d10, .int .i64 d11, .int .i64 d12] 30))) := below_new (below_then (below_new B1.out _) hb) _
  have P3 : Hid (Blk (u2.alloc (.cells #[.int .i64 d0, .int .i64 d1, .int .i64 d2, .bool d3, .bool d4, .bool d5, .int .u64 d6, .int .i64 d7, .int .u64 d8, .int .i64 d9, .int .i64 d10, .int .i64 d11, .int .i64 d12] 30)) w.heap.size [.int .i64 c0, .int .i64 c1, .int .i64 c2, .bool c3, .bool c4, .bool c5, .int .u64 c6, .int .i64 c7, .int .u64 c8, .int .i64 c9, .int .i64 c10, .int .i64 c11, .int .i64 c12] 30) := (P2.out.below hb).below (Go.Joins.below_alloc1 _ _)
  have Q3 : Hid (Blk (u2.alloc (.cells #[.int .i64 d0, .int .i64 d1, .int .i64 d2, .bool d3, .bool d4, .bool d5, .int .u64 d6, .int .i64 d7, .int .u64 d8, .int .i64 d9, .int .i64 d10, .int .i64 d11, .int .i64 d12] 30)) (w.heap.size + 1) [.int .u64 0, .int .u64 0, .int .u64 0, .int .u64 0, .int .u64 0, .int .u64 0] 24) := (Q2.out.below hb).below (Go.Joins.below_alloc1 _ _)
  have Y3 : Hid (Blk (u2.alloc (.cells #[.int .i64 d0, .int .i64 d1, .int .i64 d2, .bool d3, .bool d4, .bool d5, .int .u64 d6, .int .i64 d7, .int .u64 d8, .int .i64 d9, .int .i64 d10, .int .i64 d11, .int .i64 d12] 30)) u1.heap.size [.int .u64 y0, .int .u64 y1, .int .u64 y2, .int .u64 y3, .int .u64 y4, .int .u64 y5] 24) := (Y2.out.below hb).below (Go.Joins.below_alloc1 _ _)
  have E3 : Hid (Blk (u2.alloc (.cells #[.int .i64 d0, .int .i64 d1, .int .i64 d2, .bool d3, .bool d4, .bool d5, .int .u64 d6, .int .i64 d7, .int .u64 d8, .int .i64 d9, .int .i64 d10, .int .i64 d11, .int .i64 d12] 30)) u2.heap.size [.int .i64 d0, .int .i64 d1, .int .i64 d2, .bool d3, .bool d4, .bool d5, .int .u64 d6, .int .i64 d7, .int .u64 d8, .int .i64 d9, .int .i64 d10, .int .i64 d11, .int .i64 d12] 30) := Blk.made u2 _ _
  clear hb P2 Q2 Y2
  go_upto_region 3 with fail
  generalize u2.alloc (.cells #[.int .i64 d0, .int .i64 d1, .int .i64 d2, .bool d3, .bool d4, .bool d5, .int .u64 d6, .int .i64 d7, .int .u64 d8, .int .i64 d9, .int .i64 d10, .int .i64 d11, .int .i64 d12] 30) = V at B2 P3 Q3 Y3 E3 ⊢
  have lp : w.heap.size < V.heap.size := blk_lt P3.out
  have lq : w.heap.size + 1 < V.heap.size := blk_lt Q3.out
  have ly : u1.heap.size < V.heap.size := blk_lt Y3.out
  have le : u2.heap.size < V.heap.size := blk_lt E3.out
  have pc0 : V.cell? ⟨w.heap.size, 0, none⟩ = some (.int .i64 c0) := P3.out.cell 0
  have pc1 : V.cell? ⟨w.heap.size, 1, none⟩ = some (.int .i64 c1) := P3.out.cell 1
  have pc2 : V.cell? ⟨w.heap.size, 2, none⟩ = some (.int .i64 c2) := P3.out.cell 2
  have pc3 : V.cell? ⟨w.heap.size, 3, none⟩ = some (.bool c3) := P3.out.cell 3
  have pc4 : V.cell? ⟨w.heap.size, 4, none⟩ = some (.bool c4) := P3.out.cell 4
  have pc5 : V.cell? ⟨w.heap.size, 5, none⟩ = some (.bool c5) := P3.out.cell 5
  have pc6 : V.cell? ⟨w.heap.size, 6, none⟩ = some (.int .u64 c6) := P3.out.cell 6
  have pc7 : V.cell? ⟨w.heap.size, 7, none⟩ = some (.int .i64 c7) := P3.out.cell 7
  have pc8 : V.cell? ⟨w.heap.size, 8, none⟩ = some (.int .u64 c8) := P3.out.cell 8
  have pc9 : V.cell? ⟨w.heap.size, 9, none⟩ = some (.int .i64 c9) := P3.out.cell 9
  have pc10 : V.cell? ⟨w.heap.size, 10, none⟩ = some (.int .i64 c10) := P3.out.cell 10
  have pc11 : V.cell? ⟨w.heap.size, 11, none⟩ = some (.int .i64 c11) := P3.out.cell 11
  have pc12 : V.cell? ⟨w.heap.size, 12, none⟩ = some (.int .i64 c12) := P3.out.cell 12
  have ec0 : V.cell? ⟨u2.heap.size, 0, none⟩ = some (.int .i64 d0) := E3.out.cell 0
  have ec1 : V.cell? ⟨u2.heap.size, 1, none⟩ = some (.int .i64 d1) := E3.out.cell 1
  have ec2 : V.cell? ⟨u2.heap.size, 2, none⟩ = some (.int .i64 d2) := E3.out.cell 2
  have ec3 : V.cell? ⟨u2.heap.size, 3, none⟩ = some (.bool d3) := E3.out.cell 3
  have ec4 : V.cell? ⟨u2.heap.size, 4, none⟩ = some (.bool d4) := E3.out.cell 4
  have ec5 : V.cell? ⟨u2.heap.size, 5, none⟩ = some (.bool d5) := E3.out.cell 5
  have ec6 : V.cell? ⟨u2.heap.size, 6, none⟩ = some (.int .u64 d6) := E3.out.cell 6
  have ec7 : V.cell? ⟨u2.heap.size, 7, none⟩ = some (.int .i64 d7) := E3.out.cell 7
  have ec8 : V.cell? ⟨u2.heap.size, 8, none⟩ = some (.int .u64 d8) := E3.out.cell 8
  have ec9 : V.cell? ⟨u2.heap.size, 9, none⟩ = some (.int .i64 d9) := E3.out.cell 9
  have ec10 : V.cell? ⟨u2.heap.size, 10, none⟩ = some (.int .i64 d10) := E3.out.cell 10
  have ec11 : V.cell? ⟨u2.heap.size, 11, none⟩ = some (.int .i64 d11) := E3.out.cell 11
  have ec12 : V.cell? ⟨u2.heap.size, 12, none⟩ = some (.int .i64 d12) := E3.out.cell 12
  have qc0 : V.cell? ⟨(w.heap.size + 1), 0, none⟩ = some (.int .u64 0) := Q3.out.cell 0
  have qf0 : V.frozen? ⟨(w.heap.size + 1), 0, none⟩ = false := Q3.out.free 0
  have qc1 : V.cell? ⟨(w.heap.size + 1), 1, none⟩ = some (.int .u64 0) := Q3.out.cell 1
  have qf1 : V.frozen? ⟨(w.heap.size + 1), 1, none⟩ = false := Q3.out.free 1
  have qc2 : V.cell? ⟨(w.heap.size + 1), 2, none⟩ = some (.int .u64 0) := Q3.out.cell 2
  have qf2 : V.frozen? ⟨(w.heap.size + 1), 2, none⟩ = false := Q3.out.free 2
  have qc3 : V.cell? ⟨(w.heap.size + 1), 3, none⟩ = some (.int .u64 0) := Q3.out.cell 3
  have qf3 : V.frozen? ⟨(w.heap.size + 1), 3, none⟩ = false := Q3.out.free 3
  have qc4 : V.cell? ⟨(w.heap.size + 1), 4, none⟩ = some (.int .u64 0) := Q3.out.cell 4
  have qf4 : V.frozen? ⟨(w.heap.size + 1), 4, none⟩ = false := Q3.out.free 4
  have qc5 : V.cell? ⟨(w.heap.size + 1), 5, none⟩ = some (.int .u64 0) := Q3.out.cell 5
  have qf5 : V.frozen? ⟨(w.heap.size + 1), 5, none⟩ = false := Q3.out.free 5
  go_wp2_with fail
  change bodyPost _ _ _ _ _ (V.setCells (w.heap.size + 1) 0 [.int .u64 0, .int .u64 0, .int .u64 0, .int .u64 0, .int .u64 0, .int .u64 0])
  have hr := run_loadVar_mid (P := Try.prog) (V.setCells (w.heap.size + 1) 0 [.int .u64 0, .int .u64 0, .int .u64 0, .int .u64 0, .int .u64 0, .int .u64 0]) (w.heap.size + 1) 0 24 [.int .u64 0, .int .u64 0, .int .u64 0, .int .u64 0, .int .u64 0, .int .u64 0] _ (World.rangeAt_setCells_same _ (w.heap.size + 1) 0 [.int .u64 0, .int .u64 0, .int .u64 0, .int .u64 0, .int .u64 0, .int .u64 0] (show V.there (w.heap.size + 1) 0 6 from Q3.out.there)) Try.underlying24 rfl words_info
  refine bodyPost_ret (v := .tuple #[.agg #[.int .u64 0, .int .u64 0, .int .u64 0, .int .u64 0, .int .u64 0, .int .u64 0], .int .i64 13]) ?_ rfl ⟨rfl, below_scs B2.out (by omega) _ _⟩
  exact results_pair Try.results13 _ _ _ _ _ _ rfl rfl hr
set_option maxRecDepth 8000 in
set_option maxHeartbeats 8000000 in
theorem write3 (c0 c1 c2 c6 c7 c8 c9 c10 c11 c12 : Int) (c3 c4 c5 : Bool) (y0 y1 y2 y3 y4 y5 : Int) (w : World)
    (SPC : Hid (∀ W : World, Calls Try.prog 26 #[.agg #[.int .i64 c0, .int .i64 c1, .int .i64 c2, .bool c3, .bool c4, .bool c5, .int .u64 c6, .int .i64 c7, .int .u64 c8, .int .i64 c9, .int .i64 c10, .int .i64 c11, .int .i64 c12]] W fun e w' => e = .returned (.agg #[.int .u64 y0, .int .u64 y1, .int .u64 y2, .int .u64 y3, .int .u64 y4, .int .u64 y5]) ∧ Below W.heap.size W w'))
    (RDC : Hid (∀ W : World, Calls Try.prog 9 #[.agg #[.int .u64 y0, .int .u64 y1, .int .u64 y2, .int .u64 y3, .int .u64 y4, .int .u64 y5]] W fun e w' => e = .returned (.tuple #[.agg #[.int .i64 0, .int .i64 0, .int .i64 0, .bool false, .bool false, .bool false, .int .u64 0, .int .i64 0, .int .u64 0, .int .i64 0, .int .i64 0, .int .i64 0, .int .i64 0], .int .i64 13]) ∧ Below W.heap.size W w'))  :
    Calls Try.prog 13 #[.agg #[.int .i64 c0, .int .i64 c1, .int .i64 c2, .bool c3, .bool c4, .bool c5, .int .u64 c6, .int .i64 c7, .int .u64 c8, .int .i64 c9, .int .i64 c10, .int .i64 c11, .int .i64 c12]] w fun e w' => e = .returned (.tuple #[.agg #[.int .u64 0, .int .u64 0, .int .u64 0, .int .u64 0, .int .u64 0, .int .u64 0], .int .i64 13]) ∧ Below w.heap.size w w' := by
  have P0 : Hid (Blk ((w.alloc (.cells #[.int .i64 c0, .int .i64 c1, .int .i64 c2, .bool c3, .bool c4, .bool c5, .int .u64 c6, .int .i64 c7, .int .u64 c8, .int .i64 c9, .int .i64 c10, .int .i64 c11, .int .i64 c12] 30)).alloc (.cells #[.int .u64 0, .int .u64 0, .int .u64 0, .int .u64 0, .int .u64 0, .int .u64 0] 24)) w.heap.size [.int .i64 c0, .int .i64 c1, .int .i64 c2, .bool c3, .bool c4, .bool c5, .int .u64 c6, .int .i64 c7, .int .u64 c8, .int .i64 c9, .int .i64 c10, .int .i64 c11, .int .i64 c12] 30) := (Blk.made w _ _).below (Go.Joins.below_alloc1 _ _)
  have Q0 : Hid (Blk ((w.alloc (.cells #[.int .i64 c0, .int .i64 c1, .int .i64 c2, .bool c3, .bool c4, .bool c5, .int .u64 c6, .int .i64 c7, .int .u64 c8, .int .i64 c9, .int .i64 c10, .int .i64 c11, .int .i64 c12] 30)).alloc (.cells #[.int .u64 0, .int .u64 0, .int .u64 0, .int .u64 0, .int .u64 0, .int .u64 0] 24)) (w.heap.size + 1) [.int .u64 0, .int .u64 0, .int .u64 0, .int .u64 0, .int .u64 0, .int .u64 0] 24) := by
    have := Blk.made (w.alloc (.cells #[.int .i64 c0, .int .i64 c1, .int .i64 c2, .bool c3, .bool c4, .bool c5, .int .u64 c6, .int .i64 c7, .int .u64 c8, .int .i64 c9, .int .i64 c10, .int .i64 c11, .int .i64 c12] 30)) [.int .u64 0, .int .u64 0, .int .u64 0, .int .u64 0, .int .u64 0, .int .u64 0] 24
    rw [World.size_alloc] at this; exact this
  go_enter Try.func13, Try.ntmps13
  go_wp2_with fail
  refine (SPC.out _).mono ?_
  rintro e u1 ⟨rfl, hb⟩
  have B1 : Hid (Below w.heap.size w u1) := below_then (Go.Joins.below_alloc2 _ _ _) hb
  have P1 : Hid (Blk u1 w.heap.size [.int .i64 c0, .int .i64 c1, .int .i64 c2, .bool c3, .bool c4, .bool c5, .int .u64 c6, .int .i64 c7, .int .u64 c8, .int .i64 c9, .int .i64 c10, .int .i64 c11, .int .i64 c12] 30) := P0.out.below hb
  have Q1 : Hid (Blk u1 (w.heap.size + 1) [.int .u64 0, .int .u64 0, .int .u64 0, .int .u64 0, .int .u64 0, .int .u64 0] 24) := Q0.out.below hb
  have nq : w.heap.size + 1 < u1.heap.size := blk_lt Q1.out
  have P2 : Hid (Blk (u1.alloc (.cells #[.int .u64 y0, .int .u64 y1, .int .u64 y2, .int .u64 y3, .int .u64 y4, .int .u64 y5] 24)) w.heap.size [.int .i64 c0, .int .i64 c1, .int .i64 c2, .bool c3, .bool c4, .bool c5, .int .u64 c6, .int .i64 c7, .int .u64 c8, .int .i64 c9, .int .i64 c10, .int .i64 c11, .int .i64 c12] 30) := P1.out.below (Go.Joins.below_alloc1 _ _)
  have Q2 : Hid (Blk (u1.alloc (.cells #[.int .u64 y0, .int .u64 y1, .int .u64 y2, .int .u64 y3, .int .u64 y4, .int .u64 y5] 24)) (w.heap.size + 1) [.int .u64 0, .int .u64 0, .int .u64 0, .int .u64 0, .int .u64 0, .int .u64 0] 24) := Q1.out.below (Go.Joins.below_alloc1 _ _)
  have Y2 : Hid (Blk (u1.alloc (.cells #[.int .u64 y0, .int .u64 y1, .int .u64 y2, .int .u64 y3, .int .u64 y4, .int .u64 y5] 24)) u1.heap.size [.int .u64 y0, .int .u64 y1, .int .u64 y2, .int .u64 y3, .int .u64 y4, .int .u64 y5] 24) := Blk.made u1 _ _
  clear hb P0 Q0 P1 Q1
  go_wp2_with fail
  refine (RDC.out _).mono ?_
  rintro e u2 ⟨rfl, hb⟩
  have B2 : Hid (Below w.heap.size w (u2.alloc (.cells #[.int .i64 0, .int .i64 0, .int .i64 0, .bool false, .bool false, .bool false, .int .u64 0, .int .i64 0, .int .u64 0, .int .i64 0, .int .i64 0, .int .i64 0, .int .i64 0] 30))) := below_new (below_then (below_new B1.out _) hb) _
  have P3 : Hid (Blk (u2.alloc (.cells #[.int .i64 0, .int .i64 0, .int .i64 0, .bool false, .bool false, .bool false, .int .u64 0, .int .i64 0, .int .u64 0, .int .i64 0, .int .i64 0, .int .i64 0, .int .i64 0] 30)) w.heap.size [.int .i64 c0, .int .i64 c1, .int .i64 c2, .bool c3, .bool c4, .bool c5, .int .u64 c6, .int .i64 c7, .int .u64 c8, .int .i64 c9, .int .i64 c10, .int .i64 c11, .int .i64 c12] 30) := (P2.out.below hb).below (Go.Joins.below_alloc1 _ _)
  have Q3 : Hid (Blk (u2.alloc (.cells #[.int .i64 0, .int .i64 0, .int .i64 0, .bool false, .bool false, .bool false, .int .u64 0, .int .i64 0, .int .u64 0, .int .i64 0, .int .i64 0, .int .i64 0, .int .i64 0] 30)) (w.heap.size + 1) [.int .u64 0, .int .u64 0, .int .u64 0, .int .u64 0, .int .u64 0, .int .u64 0] 24) := (Q2.out.below hb).below (Go.Joins.below_alloc1 _ _)
  have Y3 : Hid (Blk (u2.alloc (.cells #[.int .i64 0, .int .i64 0, .int .i64 0, .bool false, .bool false, .bool false, .int .u64 0, .int .i64 0, .int .u64 0, .int .i64 0, .int .i64 0, .int .i64 0, .int .i64 0] 30)) u1.heap.size [.int .u64 y0, .int .u64 y1, .int .u64 y2, .int .u64 y3, .int .u64 y4, .int .u64 y5] 24) := (Y2.out.below hb).below (Go.Joins.below_alloc1 _ _)
  have E3 : Hid (Blk (u2.alloc (.cells #[.int .i64 0, .int .i64 0, .int .i64 0, .bool false, .bool false, .bool false, .int .u64 0, .int .i64 0, .int .u64 0, .int .i64 0, .int .i64 0, .int .i64 0, .int .i64 0] 30)) u2.heap.size [.int .i64 0, .int .i64 0, .int .i64 0, .bool false, .bool false, .bool false, .int .u64 0, .int .i64 0, .int .u64 0, .int .i64 0, .int .i64 0, .int .i64 0, .int .i64 0] 30) := Blk.made u2 _ _
  clear hb P2 Q2 Y2
  go_upto_region 3 with fail
  generalize u2.alloc (.cells #[.int .i64 0, .int .i64 0, .int .i64 0, .bool false, .bool false, .bool false, .int .u64 0, .int .i64 0, .int .u64 0, .int .i64 0, .int .i64 0, .int .i64 0, .int .i64 0] 30) = V at B2 P3 Q3 Y3 E3 ⊢
  have lp : w.heap.size < V.heap.size := blk_lt P3.out
  have lq : w.heap.size + 1 < V.heap.size := blk_lt Q3.out
  have ly : u1.heap.size < V.heap.size := blk_lt Y3.out
  have le : u2.heap.size < V.heap.size := blk_lt E3.out
  have qc0 : V.cell? ⟨(w.heap.size + 1), 0, none⟩ = some (.int .u64 0) := Q3.out.cell 0
  have qf0 : V.frozen? ⟨(w.heap.size + 1), 0, none⟩ = false := Q3.out.free 0
  have qc1 : V.cell? ⟨(w.heap.size + 1), 1, none⟩ = some (.int .u64 0) := Q3.out.cell 1
  have qf1 : V.frozen? ⟨(w.heap.size + 1), 1, none⟩ = false := Q3.out.free 1
  have qc2 : V.cell? ⟨(w.heap.size + 1), 2, none⟩ = some (.int .u64 0) := Q3.out.cell 2
  have qf2 : V.frozen? ⟨(w.heap.size + 1), 2, none⟩ = false := Q3.out.free 2
  have qc3 : V.cell? ⟨(w.heap.size + 1), 3, none⟩ = some (.int .u64 0) := Q3.out.cell 3
  have qf3 : V.frozen? ⟨(w.heap.size + 1), 3, none⟩ = false := Q3.out.free 3
  have qc4 : V.cell? ⟨(w.heap.size + 1), 4, none⟩ = some (.int .u64 0) := Q3.out.cell 4
  have qf4 : V.frozen? ⟨(w.heap.size + 1), 4, none⟩ = false := Q3.out.free 4
  have qc5 : V.cell? ⟨(w.heap.size + 1), 5, none⟩ = some (.int .u64 0) := Q3.out.cell 5
  have qf5 : V.frozen? ⟨(w.heap.size + 1), 5, none⟩ = false := Q3.out.free 5
  go_wp2_with fail
  change bodyPost _ _ _ _ _ (V.setCells (w.heap.size + 1) 0 [.int .u64 0, .int .u64 0, .int .u64 0, .int .u64 0, .int .u64 0, .int .u64 0])
  have hr := run_loadVar_mid (P := Try.prog) (V.setCells (w.heap.size + 1) 0 [.int .u64 0, .int .u64 0, .int .u64 0, .int .u64 0, .int .u64 0, .int .u64 0]) (w.heap.size + 1) 0 24 [.int .u64 0, .int .u64 0, .int .u64 0, .int .u64 0, .int .u64 0, .int .u64 0] _ (World.rangeAt_setCells_same _ (w.heap.size + 1) 0 [.int .u64 0, .int .u64 0, .int .u64 0, .int .u64 0, .int .u64 0, .int .u64 0] (show V.there (w.heap.size + 1) 0 6 from Q3.out.there)) Try.underlying24 rfl words_info
  refine bodyPost_ret (v := .tuple #[.agg #[.int .u64 0, .int .u64 0, .int .u64 0, .int .u64 0, .int .u64 0, .int .u64 0], .int .i64 13]) ?_ rfl ⟨rfl, below_scs B2.out (by omega) _ _⟩
  exact results_pair Try.results13 _ _ _ _ _ _ rfl rfl hr
theorem write_yes (c : Cl) (hw : c.wf) (h : Says (spellW c) c) (w : World) : Calls Try.prog 13 #[c.val] w fun e w' => e = .returned (.tuple #[(spellW c).val, .int .i64 0]) ∧ Below w.heap.size w w' := by
  have SPC := fun W => spell_any c W
  have RDC := fun W => read_yes (spellW c) (spell_wf hw) c h W
  have NE := fun W => neC c c W
  rw [decide_eq_true rfl] at NE
  generalize spellW c = D at SPC RDC ⊢
  obtain ⟨c0, c1, c2, c3, c4, c5, c6, c7, c8, c9, c10, c11, c12⟩ := c
  obtain ⟨y0, y1, y2, y3, y4, y5⟩ := D
  exact write1 c0 c1 c2 c6 c7 c8 c9 c10 c11 c12 c3 c4 c5 y0 y1 y2 y3 y4 y5 w SPC RDC NE
theorem write_no (c : Cl) (hw : c.wf) (h : ¬ Says (spellW c) c) (w : World) : Calls Try.prog 13 #[c.val] w fun e w' => e = .returned (.tuple #[(Wd.mk 0 0 0 0 0 0).val, .int .i64 13]) ∧ Below w.heap.size w w' := by
  have SPC := fun W => spell_any c W
  by_cases hs : ∃ d, Says (spellW c) d
  · obtain ⟨d, hs⟩ := hs
    have RDC := fun W => read_yes (spellW c) (spell_wf hw) d hs W
    have ne : ¬ d = c := fun e => h (e ▸ hs)
    have NE := fun W => neC d c W
    rw [decide_eq_false ne] at NE
    generalize spellW c = D at SPC RDC
    obtain ⟨c0, c1, c2, c3, c4, c5, c6, c7, c8, c9, c10, c11, c12⟩ := c
    obtain ⟨d0, d1, d2, d3, d4, d5, d6, d7, d8, d9, d10, d11, d12⟩ := d
    obtain ⟨y0, y1, y2, y3, y4, y5⟩ := D
    exact write2 c0 c1 c2 c6 c7 c8 c9 c10 c11 c12 c3 c4 c5 y0 y1 y2 y3 y4 y5 d0 d1 d2 d6 d7 d8 d9 d10 d11 d12 d3 d4 d5 w SPC RDC NE
  · have RDC := fun W => read_no (spellW c) (spell_wf hw) hs W
    generalize spellW c = D at SPC RDC
    obtain ⟨c0, c1, c2, c3, c4, c5, c6, c7, c8, c9, c10, c11, c12⟩ := c
    obtain ⟨y0, y1, y2, y3, y4, y5⟩ := D
    exact write3 c0 c1 c2 c6 c7 c8 c9 c10 c11 c12 c3 c4 c5 y0 y1 y2 y3 y4 y5 w SPC RDC
/-- a call that words say is one of numbers -/
theorem cl_wf {o f t a s x i p q r : Int} {b1 b2 b3 : Bool} (ho : (Lit.int .i64 o).wf = true) (hf : (Lit.int .i64 f).wf = true) (ht : (Lit.int .i64 t).wf = true) (ha : (Lit.int .u64 a).wf = true) (hs : (Lit.int .i64 s).wf = true) (hx : (Lit.int .u64 x).wf = true) (hi : (Lit.int .i64 i).wf = true) (hp : (Lit.int .i64 p).wf = true) (hq : (Lit.int .i64 q).wf = true) (hr : (Lit.int .i64 r).wf = true) : Cl.wf ⟨o, f, t, b1, b2, b3, a, s, x, i, p, q, r⟩ := ⟨ho, hf, ht, ha, hs, hx, hi, hp, hq, hr⟩
theorem says_wf {W : Wd} {c : Cl} (hw : W.wf) (h : Says W c) : c.wf := by
  obtain ⟨n, hc, _⟩ := h
  have b1 := hw 1; have b2 := hw 2; have b3 := hw 3; have b4 := hw 4
  have u : ∀ k, (Lit.int .u64 (W.at k)).wf = true := fun k => by
    have := hw k
    simp [Lit.wf, IntKind.min, IntKind.max, IntKind.signed, IntKind.bits]; omega
  have i : ∀ x : Int, 0 ≤ x → x ≤ 9223372036854775807 → (Lit.int .i64 x).wf = true := fun x h0 h1 => wf64 (by omega) h1
  have z : (Lit.int .i64 0).wf = true := by decide
  have zu : (Lit.int .u64 0).wf = true := by decide
  cases case_of hc with
  | o1 h0 h1 h2 => have p1 := h1.1; have p2 := h1.2.1; have p3 := h1.2.2.1; have p4 := h1.2.2.2; exact cl_wf (by decide) (i _ (by omega) (by omega)) (i _ (by omega) (by omega)) zu z zu z z z z
  | o2 h0 h1 => have p1 := h1.1; have p2 := h1.2.1; have p3 := h1.2.2.1; have p4 := h1.2.2.2; exact cl_wf (by decide) (i _ (by omega) (by omega)) (i _ (by omega) (by omega)) zu z zu z z z z
  | o3 h0 h1 h2 => have p1 := h1.1; have p2 := h1.2.1; have p3 := h1.2.2.1; have p4 := h1.2.2.2; exact cl_wf (by decide) (i _ (by omega) (by omega)) (i _ (by omega) (by omega)) zu z zu z z z z
  | o4 h0 h1 => have s1 := h1.2.1; exact cl_wf (by decide) z z (u 1) (i _ (by omega) (by omega)) zu z z z z
  | o6 h0 h1 h2 h3 => exact cl_wf (by decide) (i _ (by omega) (by omega)) (i _ (by omega) (by omega)) zu z zu (i _ (by omega) (by omega)) z z z
  | o7 h0 h1 h2 => exact cl_wf (by decide) (i _ (by omega) (by omega)) (i _ (by omega) (by omega)) zu z zu (i _ (by omega) (by omega)) z z z
  | o8 h0 h1 => exact cl_wf (by decide) z z zu z zu (i _ (by omega) (by omega)) z z z
  | o9 h0 h1 => exact cl_wf (by decide) z z zu z zu (i _ (by omega) (by omega)) z z z
  | o10 h0 h1 => exact cl_wf (by decide) z z (u 1) z zu z z z z
  | o11 h0  => exact cl_wf (by decide) z z zu z zu z z z z
  | o12 h0 h1 => exact cl_wf (by decide) z z zu z zu (i _ (by omega) (by omega)) z z z
  | o13 h0  => exact cl_wf (by decide) z z zu z zu z z z z
  | o14 h0  => exact cl_wf (by decide) z z zu z zu z z z z
  | o15 h0 h1 h2 h3 h4 => exact cl_wf (by decide) z z zu z zu (i _ (by omega) (by omega)) (i _ (by omega) (by omega)) (i _ (by omega) (by omega)) (i _ (by omega) (by omega))
  | o16 h0 h1 => exact cl_wf (by decide) z z zu z (u 2) (i _ (by omega) (by omega)) z z z
  | o5 h0 h1 h2 => have s1 := h1.2.1; exact cl_wf (by decide) z z (u 1) (i _ (by omega) (by omega)) (u 3) z z z z
end Go.Proofs.Ytccbacjiiffheaa
