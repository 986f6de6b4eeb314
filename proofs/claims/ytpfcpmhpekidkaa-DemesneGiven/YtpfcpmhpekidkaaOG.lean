/- Boot maps: bytes as a list; awake. -/
import Derived.Test.YtpfcpmhpekidkaaOF
namespace Go.Proofs.Ytpfcpmhpekidkaa.Bm
open Go.ChangeShapes Go.WideShapes Go.ChangeAt Go.RowKit Go.Maps
set_option linter.unusedSimpArgs false
set_option linter.unusedVariables false
set_option maxRecDepth 8000

def BL (L : List Int) : Nat → Int := fun i => L.getD i 0
theorem bl_bd {L : List Int} (h : Byt L) (i : Nat) : 0 ≤ BL L i ∧ BL L i < 256 := by
  unfold BL
  rw [List.getD_eq_getElem?_getD]
  by_cases c : i < L.length
  · rw [List.getElem?_eq_getElem c]; exact h _ (List.getElem_mem c)
  · rw [List.getElem?_eq_none (by omega)]; simp
theorem bl_cells {w : World} {base g n c : Nat} {L : List Int} (hn : n = L.length) (O : OL 5 1 eB w base (.slice (some ⟨g, 0, none⟩) n c) L) : g < w.heap.size ∧ n ≤ c ∧ (∀ i, i < n → w.cell? ⟨g, 0 + i, none⟩ = some (.int .u8 (BL L i))) ∧ base ≤ g := by
  subst hn
  rcases ol_ll eB_len O with ⟨e, _⟩ | ⟨g', o', c', e, hc, l0, lg, h⟩
  · cases e
  · cases e
    refine ⟨lg, hc, fun i hi => ?_, l0⟩
    have := h i hi 0 (by omega)
    rw [Nat.mul_one, Nat.add_zero] at this
    rw [this]
    unfold BL
    rw [List.getD_eq_getElem?_getD, List.getElem?_eq_getElem hi]; rfl
/-- Frames of owned bytes -/
theorem frames_own (g n c base : Nat) (L : List Int) (hn : n = L.length) (hL : Byt L) (F k1 k2 : Int) (w : World) (O : OL 5 1 eB w base (.slice (some ⟨g, 0, none⟩) n c) L) :
    Calls Try.prog 7 #[.slice (some ⟨g, 0, none⟩) n c, .int .i64 F, .agg #[.int .i64 k1, .int .i64 k2]] w fun e w' => ∃ v' z M, e = .returned (.tuple #[v', .int .i64 z]) ∧ RL w' w.heap.size v' M ∧ FZ (BL L) n F (k1, k2) z M ∧ M.length ≤ 5000 ∧ Below w.heap.size w w' := by
  obtain ⟨h1, h2, h3, _⟩ := bl_cells hn O
  exact frames_any g 0 n c (BL L) (bl_bd hL) h2 F k1 k2 w h1 h3
theorem frames_own_z (g n c base : Nat) (L : List Int) (hn : n = L.length) (hL : Byt L) (F k1 k2 : Int) (w : World) (O : OL 5 1 eB w base (.slice (some ⟨g, 0, none⟩) n c) L) :
    Calls Try.prog 7 #[.slice (some ⟨g, 0, none⟩) n c, .int .i64 F, .agg #[.int .i64 k1, .int .i64 k2]] w fun e w' => ∃ v' z M, e = .returned (.tuple #[v', .int .i64 z]) ∧ (RL w' w.heap.size v' M ∧ At0 v') ∧ FZ (BL L) n F (k1, k2) z M ∧ M.length ≤ 5000 ∧ Below w.heap.size w w' := by
  obtain ⟨h1, h2, h3, _⟩ := bl_cells hn O
  exact frames_z g 0 n c (BL L) (bl_bd hL) h2 F k1 k2 w h1 h3
theorem byt_app {L M : List Int} (h : Byt L) (k : Byt M) : Byt (L ++ M) := fun x hx => (List.mem_append.1 hx).elim (h x) (k x)
theorem bl_app1 (L M : List Int) {i : Nat} (h : i < L.length) : BL (L ++ M) i = BL L i := by
  unfold BL; rw [List.getD_eq_getElem?_getD, List.getElem?_append_left h, ← List.getD_eq_getElem?_getD]
theorem bl_app2 (L M : List Int) (i : Nat) : BL (L ++ M) (L.length + i) = BL M i := by
  unfold BL; rw [List.getD_eq_getElem?_getD, List.getElem?_append_right (by omega), ← List.getD_eq_getElem?_getD, show L.length + i - L.length = i by omega]
theorem areas_two (x y : Ar) (hx : x.wf) (hy : y.wf) : areasL (BL (entB x ++ entB y)) 2 = [x, y] := by
  have e1 : arB (BL (entB x ++ entB y)) 0 = x := ent_back hx (fun i hi => by rw [Nat.zero_add, bl_app1 _ _ (by rw [ent_len]; exact hi)]; rfl)
  have e2 : arB (BL (entB x ++ entB y)) 20 = y := ent_back hy (fun i hi => by
    have := bl_app2 (entB x) (entB y) i
    rw [ent_len] at this
    rw [this]; rfl)
  show [arB _ 0, arB _ 20] = _
  rw [e1, e2]
theorem awake_fz : FZ (BL (entB ⟨0, 65536, 1⟩ ++ entB ⟨12289, 1, 2⟩)) 40 8 (0, 1) 0 [(1, 3), (4, 8)] := by
  have e := areas_two ⟨0, 65536, 1⟩ ⟨12289, 1, 2⟩ ⟨by decide, by decide, by decide⟩ ⟨by decide, by decide, by decide⟩
  refine Or.inr (Or.inr ⟨⟨by decide, by decide, by decide, by decide, by decide⟩, [⟨0, 65536, 1⟩, ⟨12289, 1, 2⟩], Or.inr (Or.inr (Or.inr ⟨by decide, by decide, ?_, rfl, e.symm⟩)), ?_, ?_, rfl⟩)
  · intro x hx
    rw [show 40 / 20 = 2 from rfl, e] at hx
    simp at hx
    rcases hx with rfl | rfl <;> (unfold Fit; rw [IntKind.wrap_u64]; decide)
  · exact can_cons.2 ⟨by decide, fun q hq => (by simp at hq; subst hq; decide), can_one (by decide)⟩
  · intro x
    have u : useL 8 [⟨0, 65536, 1⟩, ⟨12289, 1, 2⟩] = [(0, 8)] := by decide
    have v : awayL (0, 1) [⟨0, 65536, 1⟩, ⟨12289, 1, 2⟩] = [(0, 1), (3, 4)] := by decide
    unfold FR
    rw [u, v, has_cons, has_one, has_one, has_cons, has_one]
    simp only
    omega
set_option maxHeartbeats 2000000 in
theorem awake_any (w : World) : Calls Try.prog 6 #[] w fun e w' => e = .returned (.bool true) ∧ Below w.heap.size w w' := by
  have E1 : Hid (∀ W : World, _) := fun W => entry_call 0 65536 1 (by omega) (by omega) (by omega) (by omega) (by omega) (by omega) W
  have E2 : Hid (∀ W : World, _) := fun W => entry_call 12289 1 2 (by omega) (by omega) (by omega) (by omega) (by omega) (by omega) W
  have FC : Hid (∀ (g c base : Nat) (W : World), OL 5 1 eB W base (.slice (some ⟨g, 0, none⟩) 40 c) (entB ⟨0, 65536, 1⟩ ++ entB ⟨12289, 1, 2⟩) → Calls Try.prog 7 #[.slice (some ⟨g, 0, none⟩) 40 c, .int .i64 8, .agg #[.int .i64 0, .int .i64 1]] W fun e w' => ∃ v', e = .returned (.tuple #[v', .int .i64 0]) ∧ RL w' W.heap.size v' [(1, 3), (4, 8)] ∧ Below W.heap.size W w') := fun g c base W O => by
    refine (frames_own g 40 c base _ (by simp [ent_len]) (byt_app (ent_byt _) (ent_byt _)) 8 0 1 W O).mono ?_
    rintro e w' ⟨v', z, M, rfl, h1, h2, h3, h4⟩
    obtain ⟨rfl, rfl⟩ := h2.one awake_fz
    exact ⟨v', rfl, h1, h4⟩
  have SC : Hid (∀ (v u : Value) (W : World), RL W 0 v [(1, 3), (4, 8)] → RL W 0 u [(1, 3), (4, 8)] → _) := fun v u W h k => same_any 0 0 v u _ _ true ⟨fun _ => rfl, fun _ => rfl⟩ (by simp) (by simp) W h k
  go_enter Try.func6, Try.ntmps6
  go_wp2_with fail
  refine Calls.mono (E1.out _) ?_
  rintro e w1 ⟨g1, rfl, O1, B1⟩
  have S1 : Hid (OL 5 1 eB w1 w.heap.size (.slice (some ⟨g1, 0, none⟩) 20 20) (entB ⟨0, 65536, 1⟩) ∧ Below w.heap.size w w1) := ⟨O1, B1⟩
  clear O1 B1 E1
  go_wp2_with fail
  refine Calls.mono (E2.out _) ?_
  rintro e w2 ⟨g2, rfl, O2, B2⟩
  have O1 := row_below S1.out.1 B2
  obtain ⟨_, _, cs, _⟩ := bl_cells (by rw [ent_len]) O2
  obtain ⟨v', W2, r, ho, hg, _⟩ := app_all eB_len eB_one (by decide) Try.underlying22 infoB rfl (by decide) w.heap.size (.slice (some ⟨g1, 0, none⟩) 20 20) (entB ⟨0, 65536, 1⟩) (entB ⟨12289, 1, 2⟩) g2 0 20 20 (by rw [ent_len]) (by rw [ent_len, ent_len]; omega) w2 O1 (fun i hi j hj => by
    obtain rfl : j = 0 := by omega
    rw [Nat.mul_one, Nat.add_zero, cs i (by rw [ent_len] at hi; exact hi)]
    unfold BL
    rw [List.getD_eq_getElem?_getD, List.getElem?_eq_getElem hi]; rfl) (Nat.le_trans S1.out.2.size B2.size)
  have B2' : Below w.heap.size w W2 := (below_then S1.out.2 B2).grown hg (Nat.le_trans S1.out.2.size B2.size) (fun k e => (row_lt O1 k e).1)
  obtain ⟨g3, c3, hv3⟩ : ∃ g3 c3, v' = .slice (some ⟨g3, 0, none⟩) 40 c3 := by
    obtain ⟨_, ⟨_, h0⟩ | ⟨g, cap, _, e, _⟩⟩ := ho
    · simp [ent_len] at h0
    · exact ⟨g, cap, by rw [e]; simp [ent_len]⟩
  subst hv3
  have S2 : Hid (OL 5 1 eB W2 w.heap.size (.slice (some ⟨g3, 0, none⟩) 40 c3) (entB ⟨0, 65536, 1⟩ ++ entB ⟨12289, 1, 2⟩) ∧ Below w.heap.size w W2) := ⟨ho, B2'⟩
  clear O1 O2 B2 B2' cs ho hg S1 E2
  go_wp2_with (at_builtin; refine wpList_app rfl _ _ 22 rfl (.slice (some ⟨g1, 0, none⟩) 20 20) (.slice (some ⟨g2, 0, none⟩) 20 20) rfl rfl (.slice (some ⟨g3, 0, none⟩) 40 c3) W2 r ?_)
  refine Calls.mono (FC.out g3 c3 w.heap.size W2 S2.out.1) ?_
  rintro e w4 ⟨v4, rfl, R4, B4⟩
  have S4 : Hid (RL w4 0 v4 [(1, 3), (4, 8)] ∧ Below w.heap.size w w4) := ⟨R4.low (Nat.zero_le _), below_then S2.out.2 B4⟩
  clear R4 B4 S2 FC r
  go_wp2_with fail
  have q0 : RL (w4.alloc (.cells #[.int .i64 1, .int .i64 3, .int .i64 4, .int .i64 8] 30)) 0 (.slice (some ⟨w4.heap.size, 0, none⟩) 2 2) [(1, 3), (4, 8)] := by
    refine Or.inr ⟨w4.heap.size, 0, 2, rfl, Nat.le_refl _, Nat.zero_le _, by rw [World.size_alloc]; omega, fun i hi j hj => ?_⟩
    have b := Blk.made w4 [.int .i64 1, .int .i64 3, .int .i64 4, .int .i64 8] 30
    have hi' : i = 0 ∨ i = 1 := by simp at hi; omega
    have hj' : j = 0 ∨ j = 1 := by omega
    rcases hi' with rfl | rfl <;> rcases hj' with rfl | rfl
    · exact b.cell 0
    · exact b.cell 1
    · exact b.cell 2
    · exact b.cell 3
  refine Calls.mono (SC.out _ _ _ (S4.out.1.below (Go.Joins.below_alloc1 _ _)) q0) ?_
  rintro e w5 ⟨rfl, hb⟩
  have S5 : Hid (Below w.heap.size w w5) := below_then (below_new S4.out.2 _) hb
  clear hb q0
  go_wp2_with fail
  go_ret
  exact ⟨rfl, S5.out⟩
end Go.Proofs.Ytpfcpmhpekidkaa.Bm
