/- Regions: a list, and a region behind it. -/
import Derived.Test.YtngaodfajihmmaaG4
import Derived.Laws.OwnMore
namespace Go.Proofs.Ytngaodfajihmmaa
open Go.ChangeShapes Go.WideShapes Go.ChangeAt Go.RowKit Go.Maps
set_option linter.unusedSimpArgs false
set_option linter.unusedVariables false

def Rg.upto (r : Rg) (t : Int) : Rg := ⟨r.fr, t, r.w, r.u, r.x, r.kd⟩
theorem flat_set : ∀ (L : List Rg) (i : Nat) (t : Int), i < L.length → (L.flatMap Rg.enc).set (i * 6 + 1) (.int .i64 t) = (L.set i ((L.getD i Rg.zero).upto t)).flatMap Rg.enc
  | [], i, t, h => absurd h (Nat.not_lt_zero _)
  | r :: l, 0, t, h => by
    rw [List.flatMap_cons, List.set_cons_zero, List.flatMap_cons]
    have e : ((r :: l).getD 0 Rg.zero) = r := rfl
    rw [e, List.set_append_left _ _ (by rw [renc_len]; omega)]
    rfl
  | r :: l, i + 1, t, h => by
    rw [List.flatMap_cons, List.set_cons_succ, List.flatMap_cons]
    have e : ((r :: l).getD (i + 1) Rg.zero) = l.getD i Rg.zero := by simp [List.getD]
    rw [e, List.set_append_right _ _ (by rw [renc_len]; omega), renc_len, show (i + 1) * 6 + 1 - 6 = i * 6 + 1 by omega, flat_set l i t (by simpa using h)]
theorem OwnL.setTo {w : World} {base g cap : Nat} {L : List Rg} (h : OwnL w base (.slice (some ⟨g, 0, none⟩) L.length cap) L) (i : Nat) (hi : i < L.length) (t : Int) : OwnL (w.setCell ⟨g, i * 6 + 1, none⟩ (.int .i64 t)) base (.slice (some ⟨g, 0, none⟩) L.length cap) (L.set i ((L.getD i Rg.zero).upto t)) := by
  have := (World.ownsRow.stored h (i * 6 + 1) (.int .i64 t)).1
  unfold OwnL
  rw [flat_set L i t hi] at this
  rw [List.length_set]; exact this
theorem OwnL.cell {w : World} {base g cap : Nat} {L : List Rg} (h : OwnL w base (.slice (some ⟨g, 0, none⟩) L.length cap) L) (i : Nat) (hi : i < L.length) (j : Nat) (x : Value) (hj : j < 6) (hx : (L.getD i Rg.zero).enc[j]? = some x) : w.cell? ⟨g, i * 6 + j, none⟩ = some x := by
  rw [World.ownsRow.cellAt h (i * 6 + j) (by omega), flatR_enc L i j hi hj, hx]
theorem OwnL.next {w : World} {base : Nat} {v : Value} {L : List Rg} {r : Rg} (h : w.ownsRow base 37 6 v (L.length + 1) (L.flatMap Rg.enc ++ r.enc)) : OwnL w base v (L ++ [r]) := by
  unfold OwnL; simpa [List.flatMap_append] using h
theorem OwnL.below {w w' : World} {base : Nat} {v : Value} {L : List Rg} (h : OwnL w base v L) (hb : Below w.heap.size w w') : OwnL w' base v L := own_keep h hb
def lastR (L : List Rg) : Rg := L.getD (L.length - 1) Rg.zero
def withL (L : List Rg) (r : Rg) : List Rg := if r.to ≤ r.fr then L else if 0 < L.length ∧ (lastR L).joins r = true then L.set (L.length - 1) ((lastR L).upto r.to) else L ++ [r]
theorem withL_len (L : List Rg) (r : Rg) : (withL L r).length ≤ L.length + 1 := by
  unfold withL
  split
  · omega
  · split
    · rw [List.length_set]; omega
    · rw [List.length_append]; simp
/-- what a call that is handed a list in the making leaves of the rest -/
def WithK (w w' : World) (v v' : Value) : Prop := w.grownBy w' v.ownBlock ∧ (v'.ownBlock = v.ownBlock ∨ ∃ j, w.heap.size ≤ j ∧ v'.ownBlock = some j)
theorem WithK.refl {w w' : World} (v : Value) (h : Below w.heap.size w w') : WithK w w' v v := ⟨grown_of_below h _, Or.inl rfl⟩
theorem news1 (u : World) (C : Array Value) (t : TypeId) : ∀ j x, C.toList[j]? = some x → (u.alloc (.cells C t)).cell? ((⟨u.heap.size, 0, none⟩ : Addr).add j) = some x := by
  intro j x hx
  rw [Addr.add_mid, Nat.zero_add]
  exact (Go.Joins.cell_of_block (own1 u (.cells C t)) j).trans (by simpa using hx)
theorem grown_then {a b c : World} {r : Option Nat} (h : Below a.heap.size a b) (k : b.grownBy c r) : a.grownBy c r := grown_trans (grown_of_below h r) k
set_option maxHeartbeats 4000000 in
theorem with_any (base : Nat) (v : Value) (L : List Rg) (hL : L.length ≤ 1000) (r : Rg) (w : World) (hw : base ≤ w.heap.size) (h : OwnL w base v L) :
    Calls Try.prog 27 #[v, r.val] w fun e w' => ∃ v', e = .returned v' ∧ OwnL w' base v' (withL L r) ∧ WithK w w' v v' := by
  obtain ⟨i0, hi, hz0, hz1, hz2⟩ := info5 rg_info5
  obtain ⟨M, hM⟩ : ∃ M, withL L r = M := ⟨_, rfl⟩
  rw [hM]
  have HM : Hid (withL L r = M) := hM
  have HO : Hid (OwnL w base v L) := h
  have MK : Hid (∀ (a b : Rg) (W : World), Calls Try.prog 34 #[a.val, b.val] W fun e w' => e = .returned (.bool (a.joins b)) ∧ Below W.heap.size W w') := make_any
  clear hM
  by_cases c0 : r.to ≤ r.fr
  · have em : M = L := by rw [← HM.out]; unfold withL; rw [if_pos c0]
    subst em
    obtain ⟨r1, r2, r3, r4, r5, r6⟩ := r
    simp only at c0
    have d0 : decide (r2 ≤ r1) = true := by simp [c0]
    clear HM h
    have O1 : Hid (OwnL (w.alloc (.cells #[.int .i64 r1, .int .i64 r2, .bool r3, .bool r4, .bool r5, .int .i64 r6] 37)) base v M) := OwnL.below HO.out (Go.Joins.below_alloc1 _ _)
    go_enter Try.func27, Try.ntmps27
    go_wp2_with fail
    go_ret
    exact ⟨v, rfl, O1.out, WithK.refl v (Go.Joins.below_alloc1 _ _)⟩
  have d0 : decide (r.to ≤ r.fr) = false := by simp; omega
  rcases Go.Joins.ownsRow_forms h with ⟨ev, en⟩ | ⟨g, cap, ev⟩
  · have EW : Hid (M = L ++ [r]) := by show _ = _; rw [← HM.out]; unfold withL; rw [if_neg c0, if_neg (fun q => by omega)]
    have eLn : L.length = 0 := en
    obtain ⟨r1, r2, r3, r4, r5, r6⟩ := r
    simp only at d0
    clear c0 HM h en
    subst ev
    go_enter Try.func27, Try.ntmps27
    go_wp2_with fail
    refine wp_region_noPanic ?_
    refine wp_region_held_drew (S := fun c => c.cell? ⟨w.heap.size, 0, none⟩ = some (.int .i64 r1) ∧ c.cell? ⟨w.heap.size, 1, none⟩ = some (.int .i64 r2) ∧ c.cell? ⟨w.heap.size, 2, none⟩ = some (.bool r3) ∧ c.cell? ⟨w.heap.size, 3, none⟩ = some (.bool r4) ∧ c.cell? ⟨w.heap.size, 4, none⟩ = some (.bool r5) ∧ c.cell? ⟨w.heap.size, 5, none⟩ = some (.int .i64 r6)) (by kernel_rfl) ?_ (fun hHeld => ?_)
    · exact ⟨by simp, by simp, by simp, by simp, by simp, by simp⟩
    refine wpAnyH_take (i := 0) (oi := ⟨some 17, _, _, _, _, none⟩) (v := ?_) rfl (by kernel_rfl) (by kernel_rfl) (by kernel_rfl) (fun _ _ _ h => h) (Or.inl ⟨by rfl, ?_⟩) (by assumption) ?_
    rotate_left
    · intro w hSw; (try dsimp only at hSw); go_simp; (try with_reducible rfl)
    try simp only [Act.put, List.setIfInBounds_toArray, List.set_cons_zero, List.set_cons_succ]
    refine wpAnyH_take (i := 1) (oi := ⟨some 18, _, _, _, _, none⟩) (v := .bool false) rfl (by kernel_rfl) (by kernel_rfl) (by kernel_rfl) (fun _ _ _ h => h) (Or.inl ⟨by rfl, ?_⟩) (by assumption) ?_
    · intro w hSw; (try dsimp only at hSw); go_simp; (try simp); (try omega)
    try simp only [Act.put, List.setIfInBounds_toArray, List.set_cons_zero, List.set_cons_succ]
    refine wpAnyH_take (i := 2) (oi := ⟨some 19, _, _, _, _, none⟩) (v := ?_) rfl (by kernel_rfl) (by kernel_rfl) (by kernel_rfl) (fun _ _ _ h => h) (Or.inl ⟨by rfl, ?_⟩) (by assumption) ?_
    rotate_left
    · intro w hSw; (try dsimp only at hSw); go_simp; (try with_reducible rfl)
    try simp only [Act.put, List.setIfInBounds_toArray, List.set_cons_zero, List.set_cons_succ]
    refine wpAnyH_take (i := 3) (oi := ⟨some 20, _, _, _, _, some (2, true)⟩) (v := undef) rfl (by kernel_rfl) (by kernel_rfl) (by kernel_rfl) (fun _ _ _ h => h) (Or.inr ⟨by rfl, rfl⟩) (by assumption) ?_
    try simp only [Act.put, List.setIfInBounds_toArray, List.set_cons_zero, List.set_cons_succ]
    refine wpAnyH_take (i := 4) (oi := ⟨some 21, _, _, _, _, some (2, true)⟩) (v := undef) rfl (by kernel_rfl) (by kernel_rfl) (by kernel_rfl) (fun _ _ _ h => h) (Or.inr ⟨by rfl, rfl⟩) (by assumption) ?_
    try simp only [Act.put, List.setIfInBounds_toArray, List.set_cons_zero, List.set_cons_succ]
    refine wpAnyH_take (i := 5) (oi := ⟨some 22, _, _, _, _, some (2, true)⟩) (v := undef) rfl (by kernel_rfl) (by kernel_rfl) (by kernel_rfl) (fun _ _ _ h => h) (Or.inr ⟨by rfl, rfl⟩) (by assumption) ?_
    try simp only [Act.put, List.setIfInBounds_toArray, List.set_cons_zero, List.set_cons_succ]
    refine wpAnyH_take (i := 6) (oi := ⟨some 23, _, _, _, _, some (2, true)⟩) (v := undef) rfl (by kernel_rfl) (by kernel_rfl) (by kernel_rfl) (fun _ _ _ h => h) (Or.inr ⟨by rfl, rfl⟩) (by assumption) ?_
    try simp only [Act.put, List.setIfInBounds_toArray, List.set_cons_zero, List.set_cons_succ]
    refine wpAnyH_take (i := 7) (oi := ⟨some 24, _, _, _, _, some (2, true)⟩) (v := undef) rfl (by kernel_rfl) (by kernel_rfl) (by kernel_rfl) (fun _ _ _ h => h) (Or.inr ⟨by rfl, rfl⟩) (by assumption) ?_
    try simp only [Act.put, List.setIfInBounds_toArray, List.set_cons_zero, List.set_cons_succ]
    refine wpAnyH_take (i := 8) (oi := ⟨some 25, _, _, _, _, some (2, true)⟩) (v := undef) rfl (by kernel_rfl) (by kernel_rfl) (by kernel_rfl) (fun _ _ _ h => h) (Or.inr ⟨by rfl, rfl⟩) (by assumption) ?_
    try simp only [Act.put, List.setIfInBounds_toArray, List.set_cons_zero, List.set_cons_succ]
    refine wpAnyH_take (i := 9) (oi := ⟨some 26, _, _, _, _, none⟩) (v := ?_) rfl (by kernel_rfl) (by kernel_rfl) (by kernel_rfl) (fun _ _ _ h => h) (Or.inl ⟨by rfl, ?_⟩) (by assumption) ?_
    rotate_left
    · intro w hSw; (try dsimp only at hSw); go_simp; (try with_reducible rfl)
    try simp only [Act.put, List.setIfInBounds_toArray, List.set_cons_zero, List.set_cons_succ]
    refine wpAnyH_done (by kernel_rfl) ?_ _
    refine NoPanic.normal ?_
    have OU : Hid (OwnL (w.alloc (.cells #[.int .i64 r1, .int .i64 r2, .bool r3, .bool r4, .bool r5, .int .i64 r6] 37)).drew base (.slice none 0 0) L) := OwnL.below HO.out (below_drew (Go.Joins.below_alloc1 _ _))
    have BU : Hid (Below w.heap.size w (w.alloc (.cells #[.int .i64 r1, .int .i64 r2, .bool r3, .bool r4, .bool r5, .int .i64 r6] 37)).drew) := below_drew (Go.Joins.below_alloc1 _ _)
    have lU : w.heap.size < (w.alloc (.cells #[.int .i64 r1, .int .i64 r2, .bool r3, .bool r4, .bool r5, .int .i64 r6] 37)).drew.heap.size := by show _ < (World.alloc _ _).heap.size; simp
    generalize (w.alloc (.cells #[.int .i64 r1, .int .i64 r2, .bool r3, .bool r4, .bool r5, .int .i64 r6] 37)).drew = U at OU BU lU hHeld ⊢
    obtain ⟨x0, x1, x2, x3, x4, x5⟩ := hHeld
    have OW : Hid ((U.alloc (.cells #[.int .i64 r1, .int .i64 r2, .bool r3, .bool r4, .bool r5, .int .i64 r6] 37)).ownsRow base 37 6 (.slice none 0 0) L.length (L.flatMap Rg.enc)) := own_keep OU.out (Go.Joins.below_alloc1 _ _)
    have NW : Hid (∀ j x, ([.int .i64 r1, .int .i64 r2, .bool r3, .bool r4, .bool r5, .int .i64 r6] : List Value)[j]? = some x → (U.alloc (.cells #[.int .i64 r1, .int .i64 r2, .bool r3, .bool r4, .bool r5, .int .i64 r6] 37)).cell? ((⟨U.heap.size, 0, none⟩ : Addr).add j) = some x) := news1 U #[.int .i64 r1, .int .i64 r2, .bool r3, .bool r4, .bool r5, .int .i64 r6] 37
    have ON : Hid (∀ x ∈ ([.int .i64 r1, .int .i64 r2, .bool r3, .bool r4, .bool r5, .int .i64 r6] : List Value), x.oneCell' = true) := by show ∀ x ∈ ([.int .i64 r1, .int .i64 r2, .bool r3, .bool r4, .bool r5, .int .i64 r6] : List Value), x.oneCell' = true; simp [Value.oneCell']
    have HZ : Hid (base ≤ (U.alloc (.cells #[.int .i64 r1, .int .i64 r2, .bool r3, .bool r4, .bool r5, .int .i64 r6] 37)).heap.size) := by show _ ≤ _; rw [World.size_alloc]; have := BU.out.size; omega
    have MX : Hid (L.length + 1 ≤ maxLen) := by show _ ≤ _; unfold maxLen; omega
    have BY : Hid ((L.length + 1) * 32 ≤ 140737488355328) := by show _ ≤ _; omega
    have BA : Hid (Below w.heap.size w (U.alloc (.cells #[.int .i64 r1, .int .i64 r2, .bool r3, .bool r4, .bool r5, .int .i64 r6] 37))) := below_new BU.out _
    have SZ : Hid (w.heap.size ≤ (U.alloc (.cells #[.int .i64 r1, .int .i64 r2, .bool r3, .bool r4, .bool r5, .int .i64 r6] 37)).heap.size) := BA.out.size
    generalize hN : L.length = nL at OW MX BY ⊢
    go_wp2_with (at_builtin; refine wpList_append_own_at _ rfl _ _ 23 rfl base 37 i0 zrg 6 32 Try.underlying23 hi hz0 hz1 hz2 rfl (by decide) (.slice none 0 0) nL (L.flatMap Rg.enc) rfl OW.out ⟨U.heap.size, 0, none⟩ 1 1 ([.int .i64 r1, .int .i64 r2, .bool r3, .bool r4, .bool r5, .int .i64 r6] : List Value) rfl rfl NW.out ON.out MX.out BY.out HZ.out ?_; intro v1 a0 hown hg hnil hblk; have O1 : Hid (a0.ownsRow base 37 6 v1 (nL + 1) (L.flatMap Rg.enc ++ [.int .i64 r1, .int .i64 r2, .bool r3, .bool r4, .bool r5, .int .i64 r6])) := hown; have K1 : Hid (WithK w a0 (.slice none 0 0) v1) := ⟨grown_then BA.out hg, hblk.elim Or.inl (fun e => Or.inr ⟨_, SZ.out, e⟩)⟩; clear hown hg hnil hblk OW NW ON HZ MX BY BA SZ)
    go_wp2_with fail
    go_ret
    exact ⟨v1, rfl, by rw [EW.out]; exact OwnL.next (r := ⟨r1, r2, r3, r4, r5, r6⟩) (by rw [hN]; exact O1.out), K1.out⟩
  · subst ev
    by_cases e0 : L.length = 0
    · have EW : Hid (M = L ++ [r]) := by show _ = _; rw [← HM.out]; unfold withL; rw [if_neg c0, if_neg (fun q => by omega)]
      have eLn : L.length = 0 := e0
      obtain ⟨r1, r2, r3, r4, r5, r6⟩ := r
      simp only at d0
      clear c0 HM h e0
      have HO2 : Hid (OwnL w base (.slice (some ⟨g, 0, none⟩) 0 cap) L) := by have := HO.out; rw [eLn] at this; exact this
      clear HO
      have HO : Hid _ := HO2.out
      clear HO2
      rw [eLn]
      go_enter Try.func27, Try.ntmps27
      go_wp2_with fail
      refine wp_region_noPanic ?_
      refine wp_region_held_drew (S := fun c => c.cell? ⟨w.heap.size, 0, none⟩ = some (.int .i64 r1) ∧ c.cell? ⟨w.heap.size, 1, none⟩ = some (.int .i64 r2) ∧ c.cell? ⟨w.heap.size, 2, none⟩ = some (.bool r3) ∧ c.cell? ⟨w.heap.size, 3, none⟩ = some (.bool r4) ∧ c.cell? ⟨w.heap.size, 4, none⟩ = some (.bool r5) ∧ c.cell? ⟨w.heap.size, 5, none⟩ = some (.int .i64 r6)) (by kernel_rfl) ?_ (fun hHeld => ?_)
      · exact ⟨by simp, by simp, by simp, by simp, by simp, by simp⟩
      refine wpAnyH_take (i := 0) (oi := ⟨some 17, _, _, _, _, none⟩) (v := ?_) rfl (by kernel_rfl) (by kernel_rfl) (by kernel_rfl) (fun _ _ _ h => h) (Or.inl ⟨by rfl, ?_⟩) (by assumption) ?_
      rotate_left
      · intro w hSw; (try dsimp only at hSw); go_simp; (try with_reducible rfl)
      try simp only [Act.put, List.setIfInBounds_toArray, List.set_cons_zero, List.set_cons_succ]
      refine wpAnyH_take (i := 1) (oi := ⟨some 18, _, _, _, _, none⟩) (v := .bool false) rfl (by kernel_rfl) (by kernel_rfl) (by kernel_rfl) (fun _ _ _ h => h) (Or.inl ⟨by rfl, ?_⟩) (by assumption) ?_
      · intro w hSw; (try dsimp only at hSw); go_simp; (try simp); (try omega)
      try simp only [Act.put, List.setIfInBounds_toArray, List.set_cons_zero, List.set_cons_succ]
      refine wpAnyH_take (i := 2) (oi := ⟨some 19, _, _, _, _, none⟩) (v := ?_) rfl (by kernel_rfl) (by kernel_rfl) (by kernel_rfl) (fun _ _ _ h => h) (Or.inl ⟨by rfl, ?_⟩) (by assumption) ?_
      rotate_left
      · intro w hSw; (try dsimp only at hSw); go_simp; (try with_reducible rfl)
      try simp only [Act.put, List.setIfInBounds_toArray, List.set_cons_zero, List.set_cons_succ]
      refine wpAnyH_take (i := 3) (oi := ⟨some 20, _, _, _, _, some (2, true)⟩) (v := undef) rfl (by kernel_rfl) (by kernel_rfl) (by kernel_rfl) (fun _ _ _ h => h) (Or.inr ⟨by rfl, rfl⟩) (by assumption) ?_
      try simp only [Act.put, List.setIfInBounds_toArray, List.set_cons_zero, List.set_cons_succ]
      refine wpAnyH_take (i := 4) (oi := ⟨some 21, _, _, _, _, some (2, true)⟩) (v := undef) rfl (by kernel_rfl) (by kernel_rfl) (by kernel_rfl) (fun _ _ _ h => h) (Or.inr ⟨by rfl, rfl⟩) (by assumption) ?_
      try simp only [Act.put, List.setIfInBounds_toArray, List.set_cons_zero, List.set_cons_succ]
      refine wpAnyH_take (i := 5) (oi := ⟨some 22, _, _, _, _, some (2, true)⟩) (v := undef) rfl (by kernel_rfl) (by kernel_rfl) (by kernel_rfl) (fun _ _ _ h => h) (Or.inr ⟨by rfl, rfl⟩) (by assumption) ?_
      try simp only [Act.put, List.setIfInBounds_toArray, List.set_cons_zero, List.set_cons_succ]
      refine wpAnyH_take (i := 6) (oi := ⟨some 23, _, _, _, _, some (2, true)⟩) (v := undef) rfl (by kernel_rfl) (by kernel_rfl) (by kernel_rfl) (fun _ _ _ h => h) (Or.inr ⟨by rfl, rfl⟩) (by assumption) ?_
      try simp only [Act.put, List.setIfInBounds_toArray, List.set_cons_zero, List.set_cons_succ]
      refine wpAnyH_take (i := 7) (oi := ⟨some 24, _, _, _, _, some (2, true)⟩) (v := undef) rfl (by kernel_rfl) (by kernel_rfl) (by kernel_rfl) (fun _ _ _ h => h) (Or.inr ⟨by rfl, rfl⟩) (by assumption) ?_
      try simp only [Act.put, List.setIfInBounds_toArray, List.set_cons_zero, List.set_cons_succ]
      refine wpAnyH_take (i := 8) (oi := ⟨some 25, _, _, _, _, some (2, true)⟩) (v := undef) rfl (by kernel_rfl) (by kernel_rfl) (by kernel_rfl) (fun _ _ _ h => h) (Or.inr ⟨by rfl, rfl⟩) (by assumption) ?_
      try simp only [Act.put, List.setIfInBounds_toArray, List.set_cons_zero, List.set_cons_succ]
      refine wpAnyH_take (i := 9) (oi := ⟨some 26, _, _, _, _, none⟩) (v := ?_) rfl (by kernel_rfl) (by kernel_rfl) (by kernel_rfl) (fun _ _ _ h => h) (Or.inl ⟨by rfl, ?_⟩) (by assumption) ?_
      rotate_left
      · intro w hSw; (try dsimp only at hSw); go_simp; (try with_reducible rfl)
      try simp only [Act.put, List.setIfInBounds_toArray, List.set_cons_zero, List.set_cons_succ]
      refine wpAnyH_done (by kernel_rfl) ?_ _
      refine NoPanic.normal ?_
      have OU : Hid (OwnL (w.alloc (.cells #[.int .i64 r1, .int .i64 r2, .bool r3, .bool r4, .bool r5, .int .i64 r6] 37)).drew base (.slice (some ⟨g, 0, none⟩) 0 cap) L) := OwnL.below HO.out (below_drew (Go.Joins.below_alloc1 _ _))
      have BU : Hid (Below w.heap.size w (w.alloc (.cells #[.int .i64 r1, .int .i64 r2, .bool r3, .bool r4, .bool r5, .int .i64 r6] 37)).drew) := below_drew (Go.Joins.below_alloc1 _ _)
      have lU : w.heap.size < (w.alloc (.cells #[.int .i64 r1, .int .i64 r2, .bool r3, .bool r4, .bool r5, .int .i64 r6] 37)).drew.heap.size := by show _ < (World.alloc _ _).heap.size; simp
      generalize (w.alloc (.cells #[.int .i64 r1, .int .i64 r2, .bool r3, .bool r4, .bool r5, .int .i64 r6] 37)).drew = U at OU BU lU hHeld ⊢
      obtain ⟨x0, x1, x2, x3, x4, x5⟩ := hHeld
      have OW : Hid ((U.alloc (.cells #[.int .i64 r1, .int .i64 r2, .bool r3, .bool r4, .bool r5, .int .i64 r6] 37)).ownsRow base 37 6 (.slice (some ⟨g, 0, none⟩) 0 cap) L.length (L.flatMap Rg.enc)) := own_keep OU.out (Go.Joins.below_alloc1 _ _)
      have NW : Hid (∀ j x, ([.int .i64 r1, .int .i64 r2, .bool r3, .bool r4, .bool r5, .int .i64 r6] : List Value)[j]? = some x → (U.alloc (.cells #[.int .i64 r1, .int .i64 r2, .bool r3, .bool r4, .bool r5, .int .i64 r6] 37)).cell? ((⟨U.heap.size, 0, none⟩ : Addr).add j) = some x) := news1 U #[.int .i64 r1, .int .i64 r2, .bool r3, .bool r4, .bool r5, .int .i64 r6] 37
      have ON : Hid (∀ x ∈ ([.int .i64 r1, .int .i64 r2, .bool r3, .bool r4, .bool r5, .int .i64 r6] : List Value), x.oneCell' = true) := by show ∀ x ∈ ([.int .i64 r1, .int .i64 r2, .bool r3, .bool r4, .bool r5, .int .i64 r6] : List Value), x.oneCell' = true; simp [Value.oneCell']
      have HZ : Hid (base ≤ (U.alloc (.cells #[.int .i64 r1, .int .i64 r2, .bool r3, .bool r4, .bool r5, .int .i64 r6] 37)).heap.size) := by show _ ≤ _; rw [World.size_alloc]; have := BU.out.size; omega
      have MX : Hid (L.length + 1 ≤ maxLen) := by show _ ≤ _; unfold maxLen; omega
      have BY : Hid ((L.length + 1) * 32 ≤ 140737488355328) := by show _ ≤ _; omega
      have BA : Hid (Below w.heap.size w (U.alloc (.cells #[.int .i64 r1, .int .i64 r2, .bool r3, .bool r4, .bool r5, .int .i64 r6] 37))) := below_new BU.out _
      have SZ : Hid (w.heap.size ≤ (U.alloc (.cells #[.int .i64 r1, .int .i64 r2, .bool r3, .bool r4, .bool r5, .int .i64 r6] 37)).heap.size) := BA.out.size
      generalize hN : L.length = nL at OW MX BY ⊢
      go_wp2_with (at_builtin; refine wpList_append_own_at _ rfl _ _ 23 rfl base 37 i0 zrg 6 32 Try.underlying23 hi hz0 hz1 hz2 rfl (by decide) (.slice (some ⟨g, 0, none⟩) 0 cap) nL (L.flatMap Rg.enc) rfl OW.out ⟨U.heap.size, 0, none⟩ 1 1 ([.int .i64 r1, .int .i64 r2, .bool r3, .bool r4, .bool r5, .int .i64 r6] : List Value) rfl rfl NW.out ON.out MX.out BY.out HZ.out ?_; intro v1 a0 hown hg hnil hblk; have O1 : Hid (a0.ownsRow base 37 6 v1 (nL + 1) (L.flatMap Rg.enc ++ [.int .i64 r1, .int .i64 r2, .bool r3, .bool r4, .bool r5, .int .i64 r6])) := hown; have K1 : Hid (WithK w a0 (.slice (some ⟨g, 0, none⟩) 0 cap) v1) := ⟨grown_then BA.out hg, hblk.elim Or.inl (fun e => Or.inr ⟨_, SZ.out, e⟩)⟩; clear hown hg hnil hblk OW NW ON HZ MX BY BA SZ)
      go_wp2_with fail
      go_ret
      exact ⟨v1, rfl, by rw [EW.out]; exact OwnL.next (r := ⟨r1, r2, r3, r4, r5, r6⟩) (by rw [hN]; exact O1.out), K1.out⟩
    have n1 : 1 ≤ L.length := by omega
    have hlast : (lastR L) = L.getD (L.length - 1) Rg.zero := rfl
    have EJ : Hid ((lastR L).joins r = true → M = L.set (L.length - 1) ((lastR L).upto r.to)) := fun q => by rw [← HM.out]; unfold withL; rw [if_neg c0, if_pos ⟨by omega, q⟩]
    have EN : Hid ((lastR L).joins r = false → M = L ++ [r]) := fun q => by rw [← HM.out]; unfold withL; rw [if_neg c0, if_neg (fun k => by rw [q] at k; simp at k)]
    have HC : Hid (∀ j x, j < 6 → (lastR L).enc[j]? = some x → w.cell? ⟨g, (L.length - 1) * 6 + j, none⟩ = some x) := fun j x hj hx => OwnL.cell HO.out (L.length - 1) (by omega) j x hj hx
    have ST : Hid (∀ (W : World) (t : Int), OwnL W base (.slice (some ⟨g, 0, none⟩) L.length cap) L → OwnL (W.setCell ⟨g, (L.length - 1) * 6 + 1, none⟩ (.int .i64 t)) base (.slice (some ⟨g, 0, none⟩) L.length cap) (L.set (L.length - 1) ((lastR L).upto t))) := fun W t q => OwnL.setTo q (L.length - 1) (by omega) t
    have gw : g < w.heap.size := (World.ownsRow.lt HO.out g rfl).2
    have FZ : Hid (∀ W : World, OwnL W base (.slice (some ⟨g, 0, none⟩) L.length cap) L → W.frozen? ⟨g, (L.length - 1) * 6 + 1, none⟩ = false) := fun W q => World.ownsRow.frozenAt q _
    clear hlast h HM c0 e0
    generalize lastR L = la at EJ EN HC ST
    have MJ : Hid _ := MK.out la r
    obtain ⟨jn, hj⟩ : ∃ j, la.joins r = j := ⟨_, rfl⟩
    rw [hj] at MJ EJ EN
    clear hj
    obtain ⟨q1, q2, q3, q4, q5, q6⟩ := la
    obtain ⟨r1, r2, r3, r4, r5, r6⟩ := r
    simp only at d0 EJ
    obtain ⟨nL, hN⟩ : ∃ n, L.length = n := ⟨_, rfl⟩
    rw [hN] at EJ HC ST HO FZ n1 hL ⊢
    have HN : Hid (L.length = nL) := hN
    clear hN
    have y0 : w.cell? ⟨g, (nL - 1) * 6, none⟩ = some (.int .i64 q1) := HC.out 0 _ (by omega) rfl
    have y1 : w.cell? ⟨g, (nL - 1) * 6 + 1, none⟩ = some (.int .i64 q2) := HC.out 1 _ (by omega) rfl
    have y2 : w.cell? ⟨g, (nL - 1) * 6 + 2, none⟩ = some (.bool q3) := HC.out 2 _ (by omega) rfl
    have y3 : w.cell? ⟨g, (nL - 1) * 6 + 3, none⟩ = some (.bool q4) := HC.out 3 _ (by omega) rfl
    have y4 : w.cell? ⟨g, (nL - 1) * 6 + 4, none⟩ = some (.bool q5) := HC.out 4 _ (by omega) rfl
    have y5 : w.cell? ⟨g, (nL - 1) * 6 + 5, none⟩ = some (.int .i64 q6) := HC.out 5 _ (by omega) rfl
    clear HC
    go_enter Try.func27, Try.ntmps27
    go_wp2_with fail
    refine wp_region_noPanic ?_
    refine wp_region_held_drew (S := fun c => c.cell? ⟨w.heap.size, 0, none⟩ = some (.int .i64 r1) ∧ c.cell? ⟨w.heap.size, 1, none⟩ = some (.int .i64 r2) ∧ c.cell? ⟨w.heap.size, 2, none⟩ = some (.bool r3) ∧ c.cell? ⟨w.heap.size, 3, none⟩ = some (.bool r4) ∧ c.cell? ⟨w.heap.size, 4, none⟩ = some (.bool r5) ∧ c.cell? ⟨w.heap.size, 5, none⟩ = some (.int .i64 r6) ∧ c.cell? ⟨g, (nL - 1) * 6, none⟩ = some (.int .i64 q1) ∧ c.cell? ⟨g, (nL - 1) * 6 + 1, none⟩ = some (.int .i64 q2) ∧ c.cell? ⟨g, (nL - 1) * 6 + 2, none⟩ = some (.bool q3) ∧ c.cell? ⟨g, (nL - 1) * 6 + 3, none⟩ = some (.bool q4) ∧ c.cell? ⟨g, (nL - 1) * 6 + 4, none⟩ = some (.bool q5) ∧ c.cell? ⟨g, (nL - 1) * 6 + 5, none⟩ = some (.int .i64 q6)) (by kernel_rfl) ?_ (fun hHeld => ?_)
    · exact ⟨by simp, by simp, by simp, by simp, by simp, by simp, (World.cell?_alloc_lt _ _ _ (by exact gw)).trans y0, (World.cell?_alloc_lt _ _ _ (by exact gw)).trans y1, (World.cell?_alloc_lt _ _ _ (by exact gw)).trans y2, (World.cell?_alloc_lt _ _ _ (by exact gw)).trans y3, (World.cell?_alloc_lt _ _ _ (by exact gw)).trans y4, (World.cell?_alloc_lt _ _ _ (by exact gw)).trans y5⟩
    refine wpAnyH_take (i := 0) (oi := ⟨some 17, _, _, _, _, none⟩) (v := ?_) rfl (by kernel_rfl) (by kernel_rfl) (by kernel_rfl) (fun _ _ _ h => h) (Or.inl ⟨by rfl, ?_⟩) (by assumption) ?_
    rotate_left
    · intro w hSw; (try dsimp only at hSw); go_simp; (try with_reducible rfl)
    try simp only [Act.put, List.setIfInBounds_toArray, List.set_cons_zero, List.set_cons_succ]
    refine wpAnyH_take (i := 1) (oi := ⟨some 18, _, _, _, _, none⟩) (v := .bool true) rfl (by kernel_rfl) (by kernel_rfl) (by kernel_rfl) (fun _ _ _ h => h) (Or.inl ⟨by rfl, ?_⟩) (by assumption) ?_
    · intro w hSw; (try dsimp only at hSw); go_simp; (try simp); (try omega)
    try simp only [Act.put, List.setIfInBounds_toArray, List.set_cons_zero, List.set_cons_succ]
    refine wpAnyH_take (i := 2) (oi := ⟨some 19, _, _, _, _, none⟩) (v := ?_) rfl (by kernel_rfl) (by kernel_rfl) (by kernel_rfl) (fun _ _ _ h => h) (Or.inl ⟨by rfl, ?_⟩) (by assumption) ?_
    rotate_left
    · intro w hSw; (try dsimp only at hSw); go_simp; (try with_reducible rfl)
    try simp only [Act.put, List.setIfInBounds_toArray, List.set_cons_zero, List.set_cons_succ]
    refine wpAnyH_take (i := 3) (oi := ⟨some 20, _, _, _, _, some (2, true)⟩) (v := ?_) rfl (by kernel_rfl) (by kernel_rfl) (by kernel_rfl) (fun _ _ _ h => h) (Or.inl ⟨by rfl, ?_⟩) (by assumption) ?_
    rotate_left
    · intro w hSw; (try dsimp only at hSw); go_simp; (try with_reducible rfl)
    try simp only [Act.put, List.setIfInBounds_toArray, List.set_cons_zero, List.set_cons_succ]
    refine wpAnyH_take (i := 4) (oi := ⟨some 21, _, _, _, _, some (2, true)⟩) (v := ?_) rfl (by kernel_rfl) (by kernel_rfl) (by kernel_rfl) (fun _ _ _ h => h) (Or.inl ⟨by rfl, ?_⟩) (by assumption) ?_
    rotate_left
    · intro w hSw; (try dsimp only at hSw); go_simp; (try with_reducible rfl)
    try simp only [Act.put, List.setIfInBounds_toArray, List.set_cons_zero, List.set_cons_succ]
    refine wpAnyH_take (i := 5) (oi := ⟨some 22, _, _, _, _, some (2, true)⟩) (v := (.pointer (some ⟨g, (nL - 1) * 6, none⟩))) rfl (by kernel_rfl) (by kernel_rfl) (by kernel_rfl) (fun _ _ _ h => h) (Or.inl ⟨by rfl, ?_⟩) (by assumption) ?_
    · intro w hSw; (try dsimp only at hSw); go_simp; (try simp); (try omega)
    try simp only [Act.put, List.setIfInBounds_toArray, List.set_cons_zero, List.set_cons_succ]
    refine wpAnyH_take (i := 6) (oi := ⟨some 23, _, _, _, _, some (2, true)⟩) (v := .agg #[.int .i64 q1, .int .i64 q2, .bool q3, .bool q4, .bool q5, .int .i64 q6]) rfl (by kernel_rfl) (by kernel_rfl) (by kernel_rfl) (fun _ _ _ h => h) (Or.inl ⟨by rfl, ?_⟩) (by assumption) ?_
    · intro w hSw; (try dsimp only at hSw); go_simp; (try simp [hSw])
    try simp only [Act.put, List.setIfInBounds_toArray, List.set_cons_zero, List.set_cons_succ]
    refine wpAnyH_take (i := 7) (oi := ⟨some 24, _, _, _, _, some (2, true)⟩) (v := .agg #[.int .i64 r1, .int .i64 r2, .bool r3, .bool r4, .bool r5, .int .i64 r6]) rfl (by kernel_rfl) (by kernel_rfl) (by kernel_rfl) (fun _ _ _ h => h) (Or.inl ⟨by rfl, ?_⟩) (by assumption) ?_
    · intro w hSw; (try dsimp only at hSw); go_simp; (try simp [hSw])
    try simp only [Act.put, List.setIfInBounds_toArray, List.set_cons_zero, List.set_cons_succ]
    have OD : Hid (OwnL (w.alloc (.cells #[.int .i64 r1, .int .i64 r2, .bool r3, .bool r4, .bool r5, .int .i64 r6] 37)).drew base (.slice (some ⟨g, 0, none⟩) nL cap) L) := OwnL.below HO.out (below_drew (Go.Joins.below_alloc1 _ _))
    have BD : Hid (Below w.heap.size w (w.alloc (.cells #[.int .i64 r1, .int .i64 r2, .bool r3, .bool r4, .bool r5, .int .i64 r6] 37)).drew) := below_drew (Go.Joins.below_alloc1 _ _)
    have lD : w.heap.size < (w.alloc (.cells #[.int .i64 r1, .int .i64 r2, .bool r3, .bool r4, .bool r5, .int .i64 r6] 37)).drew.heap.size := by show _ < (World.alloc _ _).heap.size; simp
    clear HO y0 y1 y2 y3 y4 y5
    generalize (w.alloc (.cells #[.int .i64 r1, .int .i64 r2, .bool r3, .bool r4, .bool r5, .int .i64 r6] 37)).drew = U at OD BD lD hHeld ⊢
    refine wpAnyH_ready (rs := [8]) (by kernel_rfl) (by simp) ?_
    refine AllReadyH.cons (o := ⟨some 25, _, _, _, _, some (2, true)⟩) rfl (fun K hK => ?_) AllReadyH.nil
    go_simp
    go_wp2_with (go_at_call 34; refine (MJ.out _).mono ?_; rintro e u3 ⟨rfl, hb3⟩)
    have OU : Hid (OwnL u3 base (.slice (some ⟨g, 0, none⟩) nL cap) L) := OwnL.below OD.out hb3
    have BU : Hid (Below w.heap.size w u3) := below_then BD.out hb3
    have lU : w.heap.size < u3.heap.size := Nat.lt_of_lt_of_le lD hb3.size
    obtain ⟨i0, i1, i2, i3, i4, i5, i6, i7, i8, i9, i10, i11⟩ := hHeld
    refine hK.out _ _ ⟨(hb3.cell (p := ⟨_, _, none⟩) (lD)).trans i0, (hb3.cell (p := ⟨_, _, none⟩) (lD)).trans i1, (hb3.cell (p := ⟨_, _, none⟩) (lD)).trans i2, (hb3.cell (p := ⟨_, _, none⟩) (lD)).trans i3, (hb3.cell (p := ⟨_, _, none⟩) (lD)).trans i4, (hb3.cell (p := ⟨_, _, none⟩) (lD)).trans i5, (hb3.cell (p := ⟨_, _, none⟩) ((Nat.lt_trans gw lD))).trans i6, (hb3.cell (p := ⟨_, _, none⟩) ((Nat.lt_trans gw lD))).trans i7, (hb3.cell (p := ⟨_, _, none⟩) ((Nat.lt_trans gw lD))).trans i8, (hb3.cell (p := ⟨_, _, none⟩) ((Nat.lt_trans gw lD))).trans i9, (hb3.cell (p := ⟨_, _, none⟩) ((Nat.lt_trans gw lD))).trans i10, (hb3.cell (p := ⟨_, _, none⟩) ((Nat.lt_trans gw lD))).trans i11⟩ (fun hHeld => ?_)
    clear hK K i0 i1 i2 i3 i4 i5 i6 i7 i8 i9 i10 i11 hb3 OD BD lD
    try simp only [Act.put, List.setIfInBounds_toArray, List.set_cons_zero, List.set_cons_succ]
    refine wpAnyH_take (i := 9) (oi := ⟨some 26, _, _, _, _, none⟩) (v := ?_) rfl (by kernel_rfl) (by kernel_rfl) (by kernel_rfl) (fun _ _ _ h => h) (Or.inl ⟨by rfl, ?_⟩) (by assumption) ?_
    rotate_left
    · intro w hSw; (try dsimp only at hSw); go_simp; (try with_reducible rfl)
    try simp only [Act.put, List.setIfInBounds_toArray, List.set_cons_zero, List.set_cons_succ]
    refine wpAnyH_done (by kernel_rfl) ?_ _
    refine NoPanic.normal ?_
    obtain ⟨x0, x1, x2, x3, x4, x5, x6, x7, x8, x9, x10, x11⟩ := hHeld
    have gu : g < u3.heap.size := (World.ownsRow.lt OU.out g rfl).2
    cases jn
    · have EW : Hid (M = L ++ [⟨r1, r2, r3, r4, r5, r6⟩]) := EN.out rfl
      clear x6 x7 x8 x9 x10 x11 EN EJ ST FZ MK MJ
      have OW : Hid ((u3.alloc (.cells #[.int .i64 r1, .int .i64 r2, .bool r3, .bool r4, .bool r5, .int .i64 r6] 37)).ownsRow base 37 6 (.slice (some ⟨g, 0, none⟩) nL cap) L.length (L.flatMap Rg.enc)) := own_keep OU.out (Go.Joins.below_alloc1 _ _)
      have NW : Hid (∀ j x, ([.int .i64 r1, .int .i64 r2, .bool r3, .bool r4, .bool r5, .int .i64 r6] : List Value)[j]? = some x → (u3.alloc (.cells #[.int .i64 r1, .int .i64 r2, .bool r3, .bool r4, .bool r5, .int .i64 r6] 37)).cell? ((⟨u3.heap.size, 0, none⟩ : Addr).add j) = some x) := news1 u3 #[.int .i64 r1, .int .i64 r2, .bool r3, .bool r4, .bool r5, .int .i64 r6] 37
      have ON : Hid (∀ x ∈ ([.int .i64 r1, .int .i64 r2, .bool r3, .bool r4, .bool r5, .int .i64 r6] : List Value), x.oneCell' = true) := by show ∀ x ∈ ([.int .i64 r1, .int .i64 r2, .bool r3, .bool r4, .bool r5, .int .i64 r6] : List Value), x.oneCell' = true; simp [Value.oneCell']
      have HZ : Hid (base ≤ (u3.alloc (.cells #[.int .i64 r1, .int .i64 r2, .bool r3, .bool r4, .bool r5, .int .i64 r6] 37)).heap.size) := by show _ ≤ _; rw [World.size_alloc]; have := BU.out.size; omega
      have MX : Hid (L.length + 1 ≤ maxLen) := by show _ ≤ _; unfold maxLen; rw [HN.out]; omega
      have BY : Hid ((L.length + 1) * 32 ≤ 140737488355328) := by show _ ≤ _; rw [HN.out]; omega
      have BA : Hid (Below w.heap.size w (u3.alloc (.cells #[.int .i64 r1, .int .i64 r2, .bool r3, .bool r4, .bool r5, .int .i64 r6] 37))) := below_new BU.out _
      have SZ : Hid (w.heap.size ≤ (u3.alloc (.cells #[.int .i64 r1, .int .i64 r2, .bool r3, .bool r4, .bool r5, .int .i64 r6] 37)).heap.size) := BA.out.size
      rw [HN.out] at OW MX BY
      go_wp2_with (at_builtin; refine wpList_append_own_at _ rfl _ _ 23 rfl base 37 i0 zrg 6 32 Try.underlying23 hi hz0 hz1 hz2 rfl (by decide) (.slice (some ⟨g, 0, none⟩) nL cap) nL (L.flatMap Rg.enc) rfl OW.out ⟨u3.heap.size, 0, none⟩ 1 1 ([.int .i64 r1, .int .i64 r2, .bool r3, .bool r4, .bool r5, .int .i64 r6] : List Value) rfl rfl NW.out ON.out MX.out BY.out HZ.out ?_; intro v1 a0 hown hg hnil hblk; have O1 : Hid (a0.ownsRow base 37 6 v1 (nL + 1) (L.flatMap Rg.enc ++ [.int .i64 r1, .int .i64 r2, .bool r3, .bool r4, .bool r5, .int .i64 r6])) := hown; have K1 : Hid (WithK w a0 (.slice (some ⟨g, 0, none⟩) nL cap) v1) := ⟨grown_then BA.out hg, hblk.elim Or.inl (fun e => Or.inr ⟨_, SZ.out, e⟩)⟩; clear hown hg hnil hblk OW NW ON HZ MX BY BA SZ)
      go_wp2_with fail
      go_ret
      exact ⟨v1, rfl, by rw [EW.out]; exact OwnL.next (r := ⟨r1, r2, r3, r4, r5, r6⟩) (by rw [HN.out]; exact O1.out), K1.out⟩
    · have EW : Hid (M = L.set (nL - 1) (Rg.upto ⟨q1, q2, q3, q4, q5, q6⟩ r2)) := EJ.out rfl
      have fz : u3.frozen? ⟨g, (nL - 1) * 6 + 1, none⟩ = false := FZ.out _ OU.out
      have OS : Hid (OwnL (u3.setCell ⟨g, (nL - 1) * 6 + 1, none⟩ (.int .i64 r2)) base (.slice (some ⟨g, 0, none⟩) nL cap) M) := by show OwnL _ _ _ _; rw [EW.out]; exact ST.out u3 r2 OU.out
      have KS : Hid (WithK w (u3.setCell ⟨g, (nL - 1) * 6 + 1, none⟩ (.int .i64 r2)) (.slice (some ⟨g, 0, none⟩) nL cap) (.slice (some ⟨g, 0, none⟩) nL cap)) := ⟨grown_then BU.out (grown_setCell1 u3 g _ _), Or.inl rfl⟩
      clear x6 x8 x9 x10 x11 EN EJ ST FZ MK MJ OU BU EW
      go_wp2_with fail
      go_ret
      exact ⟨_, rfl, OS.out, KS.out⟩
end Go.Proofs.Ytngaodfajihmmaa
