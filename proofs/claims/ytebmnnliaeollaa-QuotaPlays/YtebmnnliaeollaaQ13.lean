/- Containers: the document's Room, Charge, Credit. -/
import Derived.Test.YtebmnnliaeollaaQ12
namespace Go.Proofs.Ytebmnnliaeollaa
open Go.ChangeShapes Go.WideShapes Go.ChangeAt Go.RowKit Go.Maps
set_option linter.unusedSimpArgs false
set_option linter.unusedVariables false

/-- numbers of a list that fit, whole -/
def FitB (B : List Bx) : Prop := ∀ k, k < B.length → (0 ≤ (B.getD k Bx.zero).quota ∧ (B.getD k Bx.zero).quota ≤ 1048576) ∧ 0 ≤ (B.getD k Bx.zero).used ∧ (B.getD k Bx.zero).used ≤ 1048576
theorem FitB.small {B : List Bx} (h : FitB B) : SmallB B := fun k hk => (h k hk).1
theorem findB_cases (i : Int) : ∀ B : List Bx, (findB B i = (Bx.zero, false)) ∨ ∃ k, k < B.length ∧ findB B i = (B.getD k Bx.zero, true)
  | [] => Or.inl rfl
  | b :: r => by
    unfold findB
    by_cases c : b.num = i
    · rw [if_pos c]; exact Or.inr ⟨0, by simp, by simp [List.getD]⟩
    · rw [if_neg c]
      rcases findB_cases i r with h | ⟨k, h1, h2⟩
      · exact Or.inl h
      · exact Or.inr ⟨k + 1, by simpa using h1, by rw [h2]; simp [List.getD]⟩
theorem findB_fit {B : List Bx} (h : FitB B) (i : Int) : (0 ≤ (findB B i).1.quota ∧ (findB B i).1.quota ≤ 1048576) ∧ 0 ≤ (findB B i).1.used ∧ (findB B i).1.used ≤ 1048576 := by
  rcases findB_cases i B with e | ⟨k, h1, e⟩
  · rw [e]; simp [Bx.zero]
  · rw [e]; exact h k h1
theorem lentB_bd (i : Int) : ∀ B : List Bx, SmallB B → 0 ≤ lentB i B ∧ lentB i B ≤ (B.length : Int) * 1048576
  | [], _ => by simp [lentB]
  | b :: r, h => by
    have h0 := h 0 (by simp)
    simp [List.getD] at h0
    have hr := lentB_bd i r (fun k hk => by have := h (k + 1) (by simpa using hk); simpa [List.getD] using this)
    unfold lentB
    have : ((b :: r).length : Int) = (r.length : Int) + 1 := by simp
    rw [this]
    split <;> omega
def roomB (B : List Bx) (i : Int) : Int := if (findB B i).2 = true then (findB B i).1.quota - (findB B i).1.used - lentB i B else 0
def mayB (B : List Bx) (i n : Int) : Int := if (findB B i).2 = false then 5 else if n < 0 then 1 else if roomB B i < n then 8 else 0
def creditB (B : List Bx) (i n : Int) : Int := if (findB B i).2 = false then 5 else if n < 0 then 1 else if (findB B i).1.used < n then 1 else 0
set_option maxHeartbeats 1000000 in
theorem roomB_any (base : Nat) (p : Option Addr) (c : Nat) (B : List Bx) (hB : B.length ≤ 64) (hs : FitB B) (i : Int) (w : World) (h : IsBox w base p B) :
    Calls Try.prog 9 #[.slice p B.length c, .int .i64 i] w fun e w' => e = .returned (.int .i64 (roomB B i)) ∧ Below w.heap.size w w' := by
  have FI : Hid (∀ W : World, IsBox W base p B → Calls Try.prog 22 #[.slice p B.length c, .int .i64 i] W fun e w' => e = .returned (.tuple #[(findB B i).1.val, .bool (findB B i).2]) ∧ Below W.heap.size W w') := fun W h => findB_any base p c B hB i W h
  have LE : Hid (∀ W : World, IsBox W base p B → Calls Try.prog 11 #[.slice p B.length c, .int .i64 i] W fun e w' => e = .returned (.int .i64 (lentB i B)) ∧ Below W.heap.size W w') := fun W h => lentB_any base p c B hB hs.small i W h
  have HB : Hid (IsBox w base p B) := h
  obtain ⟨⟨q0, q1⟩, q2, q3⟩ := findB_fit hs i
  obtain ⟨l0, l1⟩ := lentB_bd i B hs.small
  unfold roomB
  generalize lentB i B = l at LE l0 l1 ⊢
  generalize findB B i = ff at FI q0 q1 q2 q3 ⊢
  obtain ⟨⟨bn, bp, bq, bu⟩, ok⟩ := ff
  simp only at FI q0 q1 q2 q3 ⊢
  clear h hs
  cases ok
  · rw [if_neg (by simp)]
    go_enter Try.func9, Try.ntmps9
    go_wp2_with fail
    refine (FI.out _ HB.out).mono ?_
    rintro e u1 ⟨rfl, hb1⟩
    have B1 : Hid (Below w.heap.size w u1) := hb1
    clear hb1
    go_wp2_with fail
    go_ret
    exact ⟨rfl, below_new B1.out _⟩
  · rw [if_pos rfl]
    go_enter Try.func9, Try.ntmps9
    go_wp2_with fail
    refine (FI.out _ HB.out).mono ?_
    rintro e u1 ⟨rfl, hb1⟩
    have B1 : Hid (Below w.heap.size w u1) := hb1
    clear hb1
    go_wp2_with fail
    refine wp_region_noPanic ?_
    refine wp_region_held_drew (S := fun c => c.cell? ⟨u1.heap.size, 2, none⟩ = some (.int .i64 bq) ∧ c.cell? ⟨u1.heap.size, 3, none⟩ = some (.int .i64 bu)) (by kernel_rfl) ?_ (fun hHeld => ?_)
    · exact ⟨by simp, by simp⟩
    refine wpAnyH_take (i := 0) (oi := ⟨some 15, _, _, _, _, none⟩) (v := ?_) rfl (by kernel_rfl) (by kernel_rfl) (by kernel_rfl) (fun _ _ _ h => h) (Or.inl ⟨by rfl, ?_⟩) (by assumption) ?_
    rotate_left
    · intro w hSw; (try dsimp only at hSw); go_simp; (try with_reducible rfl)
    try simp only [Act.put, List.setIfInBounds_toArray, List.set_cons_zero, List.set_cons_succ]
    refine wpAnyH_take (i := 1) (oi := ⟨some 16, _, _, _, _, none⟩) (v := ?_) rfl (by kernel_rfl) (by kernel_rfl) (by kernel_rfl) (fun _ _ _ h => h) (Or.inl ⟨by rfl, ?_⟩) (by assumption) ?_
    rotate_left
    · intro w hSw; (try dsimp only at hSw); go_simp; (try with_reducible rfl)
    try simp only [Act.put, List.setIfInBounds_toArray, List.set_cons_zero, List.set_cons_succ]
    refine wpAnyH_take (i := 2) (oi := ⟨some 17, _, _, _, _, none⟩) (v := ?_) rfl (by kernel_rfl) (by kernel_rfl) (by kernel_rfl) (fun _ _ _ h => h) (Or.inl ⟨by rfl, ?_⟩) (by assumption) ?_
    rotate_left
    · intro w hSw; (try dsimp only at hSw); go_simp; (try with_reducible rfl)
    try simp only [Act.put, List.setIfInBounds_toArray, List.set_cons_zero, List.set_cons_succ]
    refine wpAnyH_take (i := 3) (oi := ⟨some 18, _, _, _, _, none⟩) (v := ?_) rfl (by kernel_rfl) (by kernel_rfl) (by kernel_rfl) (fun _ _ _ h => h) (Or.inl ⟨by rfl, ?_⟩) (by assumption) ?_
    rotate_left
    · intro w hSw; (try dsimp only at hSw); go_simp; (try with_reducible rfl)
    try simp only [Act.put, List.setIfInBounds_toArray, List.set_cons_zero, List.set_cons_succ]
    refine wpAnyH_take (i := 4) (oi := ⟨some 19, _, _, _, _, none⟩) (v := .int .i64 (bq - bu)) rfl (by kernel_rfl) (by kernel_rfl) (by kernel_rfl) (fun _ _ _ h => h) (Or.inl ⟨by rfl, ?_⟩) (by assumption) ?_
    · intro w hSw; (try dsimp only at hSw); go_simp; (try simp); (try (simp only [IntKind.wrap_i64]; omega))
    try simp only [Act.put, List.setIfInBounds_toArray, List.set_cons_zero, List.set_cons_succ]
    refine wpAnyH_take (i := 5) (oi := ⟨some 20, _, _, _, _, none⟩) (v := ?_) rfl (by kernel_rfl) (by kernel_rfl) (by kernel_rfl) (fun _ _ _ h => h) (Or.inl ⟨by rfl, ?_⟩) (by assumption) ?_
    rotate_left
    · intro w hSw; (try dsimp only at hSw); go_simp; (try with_reducible rfl)
    try simp only [Act.put, List.setIfInBounds_toArray, List.set_cons_zero, List.set_cons_succ]
    refine wpAnyH_take (i := 6) (oi := ⟨some 21, _, _, _, _, none⟩) (v := ?_) rfl (by kernel_rfl) (by kernel_rfl) (by kernel_rfl) (fun _ _ _ h => h) (Or.inl ⟨by rfl, ?_⟩) (by assumption) ?_
    rotate_left
    · intro w hSw; (try dsimp only at hSw); go_simp; (try with_reducible rfl)
    try simp only [Act.put, List.setIfInBounds_toArray, List.set_cons_zero, List.set_cons_succ]
    have BD : Hid (Below w.heap.size w (u1.alloc (.cells #[.int .i64 bn, .int .i64 bp, .int .i64 bq, .int .i64 bu] 29)).drew) := below_drew (below_new B1.out _)
    have ID : Hid (IsBox (u1.alloc (.cells #[.int .i64 bn, .int .i64 bp, .int .i64 bq, .int .i64 bu] 29)).drew base p B) := HB.out.below BD.out
    have lD : u1.heap.size < (u1.alloc (.cells #[.int .i64 bn, .int .i64 bp, .int .i64 bq, .int .i64 bu] 29)).drew.heap.size := by show _ < (World.alloc _ _).heap.size; simp
    clear B1
    generalize (u1.alloc (.cells #[.int .i64 bn, .int .i64 bp, .int .i64 bq, .int .i64 bu] 29)).drew = U at BD ID lD hHeld ⊢
    refine wpAnyH_ready (rs := [7]) (by kernel_rfl) (by simp) ?_
    refine AllReadyH.cons (o := ⟨some 22, _, _, _, _, none⟩) rfl (fun K hK => ?_) AllReadyH.nil
    go_simp
    go_wp2_with (go_at_call 11; refine (LE.out _ ID.out).mono ?_; rintro e u2 ⟨rfl, hb2⟩)
    have B2 : Hid (Below w.heap.size w u2) := below_then BD.out hb2
    refine hK.out _ _ ⟨(hb2.cell (p := ⟨u1.heap.size, 2, none⟩) lD).trans hHeld.1, (hb2.cell (p := ⟨u1.heap.size, 3, none⟩) lD).trans hHeld.2⟩ (fun hHeld1 => ?_)
    clear hK K hHeld hb2 BD ID lD
    try simp only [Act.put, List.setIfInBounds_toArray, List.set_cons_zero, List.set_cons_succ]
    refine wpAnyH_take (i := 8) (oi := ⟨some 23, _, _, _, _, none⟩) (v := .int .i64 (bq - bu - l)) rfl (by kernel_rfl) (by kernel_rfl) (by kernel_rfl) (fun _ _ _ h => h) (Or.inl ⟨by rfl, ?_⟩) (by assumption) ?_
    · intro w hSw; (try dsimp only at hSw); go_simp; (try simp); (try (simp only [IntKind.wrap_i64]; omega))
    try simp only [Act.put, List.setIfInBounds_toArray, List.set_cons_zero, List.set_cons_succ]
    refine wpAnyH_take (i := 9) (oi := ⟨some 4, _, _, _, _, none⟩) (v := ?_) rfl (by kernel_rfl) (by kernel_rfl) (by kernel_rfl) (fun _ _ _ h => h) (Or.inl ⟨by rfl, ?_⟩) (by assumption) ?_
    rotate_left
    · intro w hSw; (try dsimp only at hSw); go_simp; (try with_reducible rfl)
    try simp only [Act.put, List.setIfInBounds_toArray, List.set_cons_zero, List.set_cons_succ]
    refine wpAnyH_done (by kernel_rfl) ?_ _
    refine NoPanic.normal ?_
    go_wp2_with fail
    go_ret
    exact ⟨rfl, B2.out⟩
set_option maxHeartbeats 1000000 in
theorem rcharge_any (base : Nat) (p : Option Addr) (c : Nat) (B : List Bx) (hB : B.length ≤ 64) (hs : FitB B) (i n : Int) (w : World) (h : IsBox w base p B) :
    Calls Try.prog 16 #[.slice p B.length c, .int .i64 i, .int .i64 n] w fun e w' => e = .returned (.int .i64 (mayB B i n)) ∧ Below w.heap.size w w' := by
  have FI : Hid (∀ W : World, IsBox W base p B → Calls Try.prog 22 #[.slice p B.length c, .int .i64 i] W fun e w' => e = .returned (.tuple #[(findB B i).1.val, .bool (findB B i).2]) ∧ Below W.heap.size W w') := fun W h => findB_any base p c B hB i W h
  have RO : Hid (∀ W : World, IsBox W base p B → Calls Try.prog 9 #[.slice p B.length c, .int .i64 i] W fun e w' => e = .returned (.int .i64 (roomB B i)) ∧ Below W.heap.size W w') := fun W h => roomB_any base p c B hB hs i W h
  have HB : Hid (IsBox w base p B) := h
  unfold mayB
  generalize roomB B i = ro at RO ⊢
  generalize findB B i = ff at FI ⊢
  obtain ⟨⟨bn, bp, bq, bu⟩, ok⟩ := ff
  simp only at FI ⊢
  clear h hs
  cases ok
  · rw [if_pos rfl]
    go_enter Try.func16, Try.ntmps16
    go_wp2_with fail
    refine (FI.out _ HB.out).mono ?_
    rintro e u1 ⟨rfl, hb1⟩
    have B1 : Hid (Below w.heap.size w u1) := hb1
    clear hb1
    go_wp2_with fail
    go_ret
    exact ⟨rfl, below_new B1.out _⟩
  rw [if_neg (by simp)]
  by_cases hn : n < 0
  · have e1 : decide (n < 0) = true := by simp [hn]
    rw [if_pos hn]
    go_enter Try.func16, Try.ntmps16
    go_wp2_with fail
    refine (FI.out _ HB.out).mono ?_
    rintro e u1 ⟨rfl, hb1⟩
    have B1 : Hid (Below w.heap.size w u1) := hb1
    clear hb1
    go_wp2_with fail
    go_ret
    exact ⟨rfl, below_new B1.out _⟩
  have e1 : decide (n < 0) = false := by simp; omega
  rw [if_neg hn]
  by_cases hr : ro < n
  · have e2 : decide (ro < n) = true := by simp [hr]
    rw [if_pos hr]
    go_enter Try.func16, Try.ntmps16
    go_wp2_with fail
    refine (FI.out _ HB.out).mono ?_
    rintro e u1 ⟨rfl, hb1⟩
    have B1 : Hid (Below w.heap.size w u1) := hb1
    clear hb1
    go_wp2_with fail
    refine (RO.out _ (HB.out.below (below_new B1.out _))).mono ?_
    rintro e u2 ⟨rfl, hb2⟩
    have B2 : Hid (Below w.heap.size w u2) := below_then (below_new B1.out _) hb2
    clear hb2
    go_wp2_with fail
    go_ret
    exact ⟨rfl, B2.out⟩
  · have e2 : decide (ro < n) = false := by simp; omega
    rw [if_neg hr]
    go_enter Try.func16, Try.ntmps16
    go_wp2_with fail
    refine (FI.out _ HB.out).mono ?_
    rintro e u1 ⟨rfl, hb1⟩
    have B1 : Hid (Below w.heap.size w u1) := hb1
    clear hb1
    go_wp2_with fail
    refine (RO.out _ (HB.out.below (below_new B1.out _))).mono ?_
    rintro e u2 ⟨rfl, hb2⟩
    have B2 : Hid (Below w.heap.size w u2) := below_then (below_new B1.out _) hb2
    clear hb2
    go_wp2_with fail
    go_ret
    exact ⟨rfl, B2.out⟩
set_option maxHeartbeats 1000000 in
theorem rcredit_any (base : Nat) (p : Option Addr) (c : Nat) (B : List Bx) (hB : B.length ≤ 64) (hs : FitB B) (i n : Int) (w : World) (h : IsBox w base p B) :
    Calls Try.prog 18 #[.slice p B.length c, .int .i64 i, .int .i64 n] w fun e w' => e = .returned (.int .i64 (creditB B i n)) ∧ Below w.heap.size w w' := by
  have FI : Hid (∀ W : World, IsBox W base p B → Calls Try.prog 22 #[.slice p B.length c, .int .i64 i] W fun e w' => e = .returned (.tuple #[(findB B i).1.val, .bool (findB B i).2]) ∧ Below W.heap.size W w') := fun W h => findB_any base p c B hB i W h
  have RO : Hid (∀ W : World, IsBox W base p B → Calls Try.prog 9 #[.slice p B.length c, .int .i64 i] W fun e w' => e = .returned (.int .i64 (roomB B i)) ∧ Below W.heap.size W w') := fun W h => roomB_any base p c B hB hs i W h
  have HB : Hid (IsBox w base p B) := h
  unfold creditB
  generalize roomB B i = ro at RO ⊢
  generalize findB B i = ff at FI ⊢
  obtain ⟨⟨bn, bp, bq, bu⟩, ok⟩ := ff
  simp only at FI ⊢
  clear h hs
  cases ok
  · rw [if_pos rfl]
    go_enter Try.func18, Try.ntmps18
    go_wp2_with fail
    refine (FI.out _ HB.out).mono ?_
    rintro e u1 ⟨rfl, hb1⟩
    have B1 : Hid (Below w.heap.size w u1) := hb1
    clear hb1
    go_wp2_with fail
    go_ret
    exact ⟨rfl, below_new B1.out _⟩
  rw [if_neg (by simp)]
  by_cases hn : n < 0
  · have e1 : decide (n < 0) = true := by simp [hn]
    rw [if_pos hn]
    go_enter Try.func18, Try.ntmps18
    go_wp2_with fail
    refine (FI.out _ HB.out).mono ?_
    rintro e u1 ⟨rfl, hb1⟩
    have B1 : Hid (Below w.heap.size w u1) := hb1
    clear hb1
    go_wp2_with fail
    go_ret
    exact ⟨rfl, below_new B1.out _⟩
  have e1 : decide (n < 0) = false := by simp; omega
  rw [if_neg hn]
  by_cases hr : bu < n
  · have e2 : decide (bu < n) = true := by simp [hr]
    rw [if_pos hr]
    go_enter Try.func18, Try.ntmps18
    go_wp2_with fail
    refine (FI.out _ HB.out).mono ?_
    rintro e u1 ⟨rfl, hb1⟩
    have B1 : Hid (Below w.heap.size w u1) := hb1
    clear hb1
    go_wp2_with fail
    go_ret
    exact ⟨rfl, below_new B1.out _⟩
  · have e2 : decide (bu < n) = false := by simp; omega
    rw [if_neg hr]
    go_enter Try.func18, Try.ntmps18
    go_wp2_with fail
    refine (FI.out _ HB.out).mono ?_
    rintro e u1 ⟨rfl, hb1⟩
    have B1 : Hid (Below w.heap.size w u1) := hb1
    clear hb1
    go_wp2_with fail
    go_ret
    exact ⟨rfl, below_new B1.out _⟩
end Go.Proofs.Ytebmnnliaeollaa
