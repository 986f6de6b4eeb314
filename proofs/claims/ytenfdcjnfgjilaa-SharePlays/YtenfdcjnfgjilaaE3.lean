/- Grants: a call of the laws with the document's list: Leave. -/
import Derived.Test.YtenfdcjnfgjilaaXL
namespace Go.Proofs.Ytenfdcjnfgjilaa
open Go.ChangeShapes Go.WideShapes Go.ChangeAt Go.RowKit Go.Maps
set_option linter.unusedSimpArgs false
set_option linter.unusedVariables false
set_option maxRecDepth 8000
set_option maxRecDepth 8000
set_option maxRecDepth 8000

theorem isrq_drew3 {w : World} {base : Nat} {p : Option Addr} {L : List Rq} (h : IsRq w base p L) : IsRq w.drew base p L := h
set_option maxHeartbeats 8000000 in
theorem rdoes3 (b : Nat) (T : Nat → Gr) (base : Nat) (q : Option Addr) (c : Nat) (hbb : b < base) (A B P : Int) (X : Bool) (w : World) (h : IsTab w b T) (hI : IsRq w base q (rowG T 256)) (hbw : base ≤ w.heap.size) :
    Calls Try.prog 9 #[.pointer (some ⟨b, 0, none⟩), .slice q (rowG T 256).length c, .agg #[.int .i64 3, .int .i64 A, .int .i64 B, .int .i64 P, .bool X]] w fun e w' => (∃ p' c', e = .returned (.tuple #[.slice p' (rowG (leaT T A B) 256).length c', .bool true]) ∧ IsRq w' base p' (rowG (leaT T A B) 256)) ∧ IsTab w' b (leaT T A B) ∧ w.grownBy w' (some b) := by
  have hb := h.2.2
  have HT : Hid (IsTab w b T) := h
  have HI : Hid (IsRq w base q (rowG T 256)) := hI
  clear h hI
  have CO : Hid (∀ W : World, IsTab W b T → Calls Try.prog 21 #[.pointer (some ⟨b, 0, none⟩), .int .i64 A, .int .i64 B] W fun e w' => e = .returned (.tuple #[(leaG T A B).val, .int .i64 (leaE T A B)]) ∧ IsTab w' b (leaT T A B) ∧ W.grownBy w' (some b)) := fun W h => leave_any b T A B W h
  have RO := fun W h hw => rleave_row T base q c A B W h hw
  have TD : Hid (∀ (l : Gr) (i : Int) (W : World), Calls Try.prog 15 #[l.val, .int .i64 i] W fun e w' => e = .returned (l.val7 i) ∧ Below W.heap.size W w') := told_any
  have ED : ∃ hid : Int, (if leaE T A B = 0 then tellG (leaG T A B) A else Rq.zero) = tellG (leaG T A B) hid := by
    by_cases e : leaE T A B = 0
    · exact ⟨A, by rw [if_pos e]⟩
    · exact ⟨0, by rw [if_neg e]; unfold leaG; rw [if_neg e]; rfl⟩
  obtain ⟨hid, hh⟩ := ED
  rw [hh] at RO
  clear hh
  generalize leaE T A B = re at CO RO
  generalize leaG T A B = gg at CO RO
  generalize leaT T A B = TN at CO RO ⊢
  obtain ⟨gf, gp, gd, gw, gt, ga⟩ := gg
  simp only [tellG] at RO
  obtain ⟨n0, hn0⟩ : ∃ n0, (rowG T 256).length = n0 := ⟨_, rfl⟩
  rw [hn0] at RO ⊢
  clear hn0
  have RO : Hid _ := RO
  go_enter Try.func9, Try.ntmps9
  go_wp2_with fail
  refine (CO.out _ (HT.out.below (Go.Joins.below_alloc1 _ _))).mono ?_
  rintro e u1 ⟨rfl, h1, h2⟩
  have x1 : u1.cell? ⟨w.heap.size, 1, none⟩ = some (.int .i64 A) := cell_grown h2 (by simp) (by omega) (by simp)
  have x2 : u1.cell? ⟨w.heap.size, 2, none⟩ = some (.int .i64 B) := cell_grown h2 (by simp) (by omega) (by simp)
  have x3 : u1.cell? ⟨w.heap.size, 3, none⟩ = some (.int .i64 P) := cell_grown h2 (by simp) (by omega) (by simp)
  have x4 : u1.cell? ⟨w.heap.size, 4, none⟩ = some (.bool X) := cell_grown h2 (by simp) (by omega) (by simp)
  have lx : w.heap.size < u1.heap.size := Nat.lt_of_lt_of_le (by simp) h2.size
  have T1 : Hid (IsTab u1 b TN) := h1
  have G1 : Hid (w.grownBy u1 (some b)) := grown_trans (grown_alloc _ _ _) h2
  have I1 : Hid (IsRq u1 base q (rowG T 256)) := (HI.out.below (Go.Joins.below_alloc1 _ _)).grown h2 hbb
  clear h1 h2
  go_wp2_with fail
  refine (RO.out _ (I1.out.below (Go.Joins.below_alloc1 _ _)) (by rw [World.size_alloc]; have := G1.out.size; omega)).mono ?_
  rintro e u2 ⟨⟨p', c', rfl, hI'⟩, hb2⟩
  have T2 : Hid (IsTab u2 b TN) := (T1.out.below (Go.Joins.below_alloc1 _ _)).below hb2
  have G2 : Hid (w.grownBy u2 (some b)) := grown_trans (grown_new G1.out _) (grown_of_below hb2 _)
  have I2 : Hid (IsRq u2 base p' (rowG TN 256)) := hI'
  have y0 : u2.cell? ⟨u1.heap.size, 0, none⟩ = some (.int .i64 gf) := (hb2.cell (p := ⟨u1.heap.size, 0, none⟩) (by simp)).trans (by simp)
  have y1 : u2.cell? ⟨u1.heap.size, 1, none⟩ = some (.int .i64 gp) := (hb2.cell (p := ⟨u1.heap.size, 1, none⟩) (by simp)).trans (by simp)
  have y2 : u2.cell? ⟨u1.heap.size, 2, none⟩ = some (.int .i64 gd) := (hb2.cell (p := ⟨u1.heap.size, 2, none⟩) (by simp)).trans (by simp)
  have y3 : u2.cell? ⟨u1.heap.size, 3, none⟩ = some (.bool gw) := (hb2.cell (p := ⟨u1.heap.size, 3, none⟩) (by simp)).trans (by simp)
  have y4 : u2.cell? ⟨u1.heap.size, 4, none⟩ = some (.bool gt) := (hb2.cell (p := ⟨u1.heap.size, 4, none⟩) (by simp)).trans (by simp)
  have y5 : u2.cell? ⟨u1.heap.size, 5, none⟩ = some (.int .i64 ga) := (hb2.cell (p := ⟨u1.heap.size, 5, none⟩) (by simp)).trans (by simp)
  have ly : u1.heap.size < u2.heap.size := Nat.lt_of_lt_of_le (by simp) hb2.size
  clear hb2 x1 x2 x3 x4 hI'
  go_wp2_with fail
  have XA : Hid (∀ j x, ([.int .i64 gf, .int .i64 gp, .int .i64 gd, .bool gw, .bool gt, .int .i64 ga] : List Value)[j]? = some x → u2.cell? ⟨u1.heap.size, j, none⟩ = some x) := by
    intro j x hx
    match j, hx with
    | 0, hx => cases hx; exact y0
    | 1, hx => cases hx; exact y1
    | 2, hx => cases hx; exact y2
    | 3, hx => cases hx; exact y3
    | 4, hx => cases hx; exact y4
    | 5, hx => cases hx; exact y5
    | j + 6, hx => simp at hx
  have CA : Hid ((∀ j x, ([.int .i64 gf, .int .i64 gp, .int .i64 gd, .bool gw, .bool gt, .int .i64 ga] : List Value)[j]? = some x → (u2.alloc (.cells #[.int .i64 hid, .int .i64 gf, .int .i64 gp, .int .i64 gd, .bool gw, .bool gt, .int .i64 ga] 41)).cell? ⟨u1.heap.size, j, none⟩ = some x) ∧ (∀ j x, ([.int .i64 hid, .int .i64 gf, .int .i64 gp, .int .i64 gd, .bool gw, .bool gt, .int .i64 ga] : List Value)[j]? = some x → (u2.alloc (.cells #[.int .i64 hid, .int .i64 gf, .int .i64 gp, .int .i64 gd, .bool gw, .bool gt, .int .i64 ga] 41)).cell? ⟨u2.heap.size, j, none⟩ = some x)) := ⟨fun j x hx => (World.cell?_alloc_lt _ _ _ ly).trans (XA.out j x hx), fun j x hx => (Go.Joins.cell_of_block (own1 u2 _) j).trans (by simpa using hx)⟩
  have TB : Hid (IsTab (u2.alloc (.cells #[.int .i64 hid, .int .i64 gf, .int .i64 gp, .int .i64 gd, .bool gw, .bool gt, .int .i64 ga] 41)) b TN) := T2.out.below (Go.Joins.below_alloc1 _ _)
  have GB : Hid (w.grownBy (u2.alloc (.cells #[.int .i64 hid, .int .i64 gf, .int .i64 gp, .int .i64 gd, .bool gw, .bool gt, .int .i64 ga] 41)) (some b)) := grown_new G2.out _
  have IB : Hid (IsRq (u2.alloc (.cells #[.int .i64 hid, .int .i64 gf, .int .i64 gp, .int .i64 gd, .bool gw, .bool gt, .int .i64 ga] 41)) base p' (rowG TN 256)) := I2.out.below (Go.Joins.below_alloc1 _ _)
  have lX : Hid (u1.heap.size < (u2.alloc (.cells #[.int .i64 hid, .int .i64 gf, .int .i64 gp, .int .i64 gd, .bool gw, .bool gt, .int .i64 ga] 41)).heap.size ∧ u2.heap.size < (u2.alloc (.cells #[.int .i64 hid, .int .i64 gf, .int .i64 gp, .int .i64 gd, .bool gw, .bool gt, .int .i64 ga] 41)).heap.size) := ⟨by rw [World.size_alloc]; omega, by rw [World.size_alloc]; omega⟩
  refine wp_region_noPanic ?_
  refine wp_region_held_drew (S := fun c => (∀ j x, ([.int .i64 gf, .int .i64 gp, .int .i64 gd, .bool gw, .bool gt, .int .i64 ga] : List Value)[j]? = some x → c.cell? ⟨u1.heap.size, j, none⟩ = some x) ∧ (∀ j x, ([.int .i64 hid, .int .i64 gf, .int .i64 gp, .int .i64 gd, .bool gw, .bool gt, .int .i64 ga] : List Value)[j]? = some x → c.cell? ⟨u2.heap.size, j, none⟩ = some x)) (by kernel_rfl) ?_ (fun hHeld => ?_)
  · exact CA.out
  have TU : Hid (IsTab (u2.alloc (.cells #[.int .i64 hid, .int .i64 gf, .int .i64 gp, .int .i64 gd, .bool gw, .bool gt, .int .i64 ga] 41)).drew b TN) := TB.out.drew
  have GU : Hid (w.grownBy (u2.alloc (.cells #[.int .i64 hid, .int .i64 gf, .int .i64 gp, .int .i64 gd, .bool gw, .bool gt, .int .i64 ga] 41)).drew (some b)) := grown_drew GB.out
  have IU : Hid (IsRq (u2.alloc (.cells #[.int .i64 hid, .int .i64 gf, .int .i64 gp, .int .i64 gd, .bool gw, .bool gt, .int .i64 ga] 41)).drew base p' (rowG TN 256)) := isrq_drew3 IB.out
  have CU : Hid ((∀ j x, ([.int .i64 gf, .int .i64 gp, .int .i64 gd, .bool gw, .bool gt, .int .i64 ga] : List Value)[j]? = some x → (u2.alloc (.cells #[.int .i64 hid, .int .i64 gf, .int .i64 gp, .int .i64 gd, .bool gw, .bool gt, .int .i64 ga] 41)).drew.cell? ⟨u1.heap.size, j, none⟩ = some x) ∧ (∀ j x, ([.int .i64 hid, .int .i64 gf, .int .i64 gp, .int .i64 gd, .bool gw, .bool gt, .int .i64 ga] : List Value)[j]? = some x → (u2.alloc (.cells #[.int .i64 hid, .int .i64 gf, .int .i64 gp, .int .i64 gd, .bool gw, .bool gt, .int .i64 ga] 41)).drew.cell? ⟨u2.heap.size, j, none⟩ = some x)) := CA.out
  have LU : Hid (u1.heap.size < (u2.alloc (.cells #[.int .i64 hid, .int .i64 gf, .int .i64 gp, .int .i64 gd, .bool gw, .bool gt, .int .i64 ga] 41)).drew.heap.size ∧ u2.heap.size < (u2.alloc (.cells #[.int .i64 hid, .int .i64 gf, .int .i64 gp, .int .i64 gd, .bool gw, .bool gt, .int .i64 ga] 41)).drew.heap.size) := lX.out
  have TC2 := TD.out ⟨gf, gp, gd, gw, gt, ga⟩ hid
  have TC3 : Hid _ := TC2
  clear TC2 CA TB GB IB lX XA T2 G2 I2 ly y0 y1 y2 y3 y4 y5
  generalize (u2.alloc (.cells #[.int .i64 hid, .int .i64 gf, .int .i64 gp, .int .i64 gd, .bool gw, .bool gt, .int .i64 ga] 41)).drew = U at TU GU IU CU LU hHeld ⊢
  refine wpAnyH_take (i := 0) (oi := ⟨some 114, _, _, _, _, none⟩) (v := ?_) rfl (by kernel_rfl) (by kernel_rfl) (by kernel_rfl) (fun _ _ _ h => h) (Or.inl ⟨by rfl, ?_⟩) (by assumption) ?_
  rotate_left
  · intro w hSw; (try dsimp only at hSw); go_simp; (try with_reducible rfl)
  try simp only [Act.put, List.setIfInBounds_toArray, List.set_cons_zero, List.set_cons_succ]
  refine wpAnyH_take (i := 1) (oi := ⟨some 115, _, _, _, _, none⟩) (v := ?_) rfl (by kernel_rfl) (by kernel_rfl) (by kernel_rfl) (fun _ _ _ h => h) (Or.inl ⟨by rfl, ?_⟩) (by assumption) ?_
  rotate_left
  · intro w hSw; (try dsimp only at hSw); go_simp; (try with_reducible rfl)
  try simp only [Act.put, List.setIfInBounds_toArray, List.set_cons_zero, List.set_cons_succ]
  refine wpAnyH_take (i := 2) (oi := ⟨some 116, _, _, _, _, none⟩) (v := ?_) rfl (by kernel_rfl) (by kernel_rfl) (by kernel_rfl) (fun _ _ _ h => h) (Or.inl ⟨by rfl, ?_⟩) (by assumption) ?_
  rotate_left
  · intro w hSw; (try dsimp only at hSw); go_simp; (try with_reducible rfl)
  try simp only [Act.put, List.setIfInBounds_toArray, List.set_cons_zero, List.set_cons_succ]
  refine wpAnyH_take (i := 3) (oi := ⟨some 117, _, _, _, _, none⟩) (v := .bool true) rfl (by kernel_rfl) (by kernel_rfl) (by kernel_rfl) (fun _ _ _ h => h) (Or.inl ⟨by rfl, ?_⟩) (by assumption) ?_
  · intro w hSw; (try dsimp only at hSw); go_simp; (try simp); (try (simp only [IntKind.wrap_i64]; omega))
  try simp only [Act.put, List.setIfInBounds_toArray, List.set_cons_zero, List.set_cons_succ]
  refine wpAnyH_take (i := 4) (oi := ⟨some 118, _, _, _, _, none⟩) (v := ?_) rfl (by kernel_rfl) (by kernel_rfl) (by kernel_rfl) (fun _ _ _ h => h) (Or.inl ⟨by rfl, ?_⟩) (by assumption) ?_
  rotate_left
  · intro w hSw; (try dsimp only at hSw); go_simp; (try with_reducible rfl)
  try simp only [Act.put, List.setIfInBounds_toArray, List.set_cons_zero, List.set_cons_succ]
  refine wpAnyH_take (i := 5) (oi := ⟨some 119, _, _, _, _, some (4, true)⟩) (v := .agg #[.int .i64 gf, .int .i64 gp, .int .i64 gd, .bool gw, .bool gt, .int .i64 ga]) rfl (by kernel_rfl) (by kernel_rfl) (by kernel_rfl) (fun _ _ _ h => h) (Or.inl ⟨by rfl, ?_⟩) (by assumption) ?_
  · intro w hSw; (try dsimp only at hSw); have q0 : w.cell? ⟨u1.heap.size, 0, none⟩ = some (.int .i64 gf) := hSw.1 0 _ rfl; have q1 : w.cell? ⟨u1.heap.size, 1, none⟩ = some (.int .i64 gp) := hSw.1 1 _ rfl; have q2 : w.cell? ⟨u1.heap.size, 2, none⟩ = some (.int .i64 gd) := hSw.1 2 _ rfl; have q3 : w.cell? ⟨u1.heap.size, 3, none⟩ = some (.bool gw) := hSw.1 3 _ rfl; have q4 : w.cell? ⟨u1.heap.size, 4, none⟩ = some (.bool gt) := hSw.1 4 _ rfl; have q5 : w.cell? ⟨u1.heap.size, 5, none⟩ = some (.int .i64 ga) := hSw.1 5 _ rfl; go_simp; (try simp)
  try simp only [Act.put, List.setIfInBounds_toArray, List.set_cons_zero, List.set_cons_succ]
  refine wpAnyH_take (i := 6) (oi := ⟨some 120, _, _, _, _, some (4, true)⟩) (v := ?_) rfl (by kernel_rfl) (by kernel_rfl) (by kernel_rfl) (fun _ _ _ h => h) (Or.inl ⟨by rfl, ?_⟩) (by assumption) ?_
  rotate_left
  · intro w hSw; (try dsimp only at hSw); go_simp; (try with_reducible rfl)
  try simp only [Act.put, List.setIfInBounds_toArray, List.set_cons_zero, List.set_cons_succ]
  refine wpAnyH_take (i := 7) (oi := ⟨some 121, _, _, _, _, some (4, true)⟩) (v := (.int .i64 hid)) rfl (by kernel_rfl) (by kernel_rfl) (by kernel_rfl) (fun _ _ _ h => h) (Or.inl ⟨by rfl, ?_⟩) (by assumption) ?_
  · intro w hSw; (try dsimp only at hSw); have q0 : w.cell? ⟨u2.heap.size, 0, none⟩ = some (.int .i64 hid) := hSw.2 0 _ rfl; go_simp; (try simp)
  try simp only [Act.put, List.setIfInBounds_toArray, List.set_cons_zero, List.set_cons_succ]
  refine wpAnyH_take (i := 9) (oi := ⟨some 123, _, _, _, _, some (4, true)⟩) (v := .agg #[.int .i64 hid, .int .i64 gf, .int .i64 gp, .int .i64 gd, .bool gw, .bool gt, .int .i64 ga]) rfl (by kernel_rfl) (by kernel_rfl) (by kernel_rfl) (fun _ _ _ h => h) (Or.inl ⟨by rfl, ?_⟩) (by assumption) ?_
  · intro w hSw; (try dsimp only at hSw); have q0 : w.cell? ⟨u2.heap.size, 0, none⟩ = some (.int .i64 hid) := hSw.2 0 _ rfl; have q1 : w.cell? ⟨u2.heap.size, 1, none⟩ = some (.int .i64 gf) := hSw.2 1 _ rfl; have q2 : w.cell? ⟨u2.heap.size, 2, none⟩ = some (.int .i64 gp) := hSw.2 2 _ rfl; have q3 : w.cell? ⟨u2.heap.size, 3, none⟩ = some (.int .i64 gd) := hSw.2 3 _ rfl; have q4 : w.cell? ⟨u2.heap.size, 4, none⟩ = some (.bool gw) := hSw.2 4 _ rfl; have q5 : w.cell? ⟨u2.heap.size, 5, none⟩ = some (.bool gt) := hSw.2 5 _ rfl; have q6 : w.cell? ⟨u2.heap.size, 6, none⟩ = some (.int .i64 ga) := hSw.2 6 _ rfl; go_simp; (try simp)
  try simp only [Act.put, List.setIfInBounds_toArray, List.set_cons_zero, List.set_cons_succ]
  refine wpAnyH_ready (rs := [8]) (by kernel_rfl) (by simp) ?_
  refine AllReadyH.cons (o := ⟨some 122, _, _, _, _, some (4, true)⟩) rfl (fun K hK => ?_) AllReadyH.nil
  go_simp
  go_wp2_with (go_at_call 15; refine (TC3.out _).mono ?_; rintro e v1 ⟨rfl, hb⟩)
  have T3 : Hid (IsTab v1 b TN) := TU.out.below hb
  have G3 : Hid (w.grownBy v1 (some b)) := grown_trans GU.out (grown_of_below hb _)
  have I3 : Hid (IsRq v1 base p' (rowG TN 256)) := IU.out.below hb
  have C1 : Hid ((∀ j x, ([.int .i64 gf, .int .i64 gp, .int .i64 gd, .bool gw, .bool gt, .int .i64 ga] : List Value)[j]? = some x → v1.cell? ⟨u1.heap.size, j, none⟩ = some x) ∧ (∀ j x, ([.int .i64 hid, .int .i64 gf, .int .i64 gp, .int .i64 gd, .bool gw, .bool gt, .int .i64 ga] : List Value)[j]? = some x → v1.cell? ⟨u2.heap.size, j, none⟩ = some x)) := ⟨fun j x hx => (hb.cell (p := ⟨u1.heap.size, j, none⟩) LU.out.1).trans (CU.out.1 j x hx), fun j x hx => (hb.cell (p := ⟨u2.heap.size, j, none⟩) LU.out.2).trans (CU.out.2 j x hx)⟩
  clear hb hHeld TU GU IU CU LU
  refine hK.out _ _ C1.out (fun hHeld => ?_)
  clear hK K
  try simp only [Act.put, List.setIfInBounds_toArray, List.set_cons_zero, List.set_cons_succ]
  refine wpAnyH_take (i := 10) (oi := ⟨some 124, _, _, _, _, some (4, true)⟩) (v := .bool true) rfl (by kernel_rfl) (by kernel_rfl) (by kernel_rfl) (fun _ _ _ h => h) (Or.inl ⟨by rfl, ?_⟩) (by assumption) ?_
  · intro w hSw; (try dsimp only at hSw); go_simp; (try simp); (try (simp only [IntKind.wrap_i64]; omega))
  try simp only [Act.put, List.setIfInBounds_toArray, List.set_cons_zero, List.set_cons_succ]
  refine wpAnyH_take (i := 11) (oi := ⟨some 125, _, _, _, _, none⟩) (v := ?_) rfl (by kernel_rfl) (by kernel_rfl) (by kernel_rfl) (fun _ _ _ h => h) (Or.inl ⟨by rfl, ?_⟩) (by assumption) ?_
  rotate_left
  · intro w hSw; (try dsimp only at hSw); go_simp; (try with_reducible rfl)
  try simp only [Act.put, List.setIfInBounds_toArray, List.set_cons_zero, List.set_cons_succ]
  refine wpAnyH_take (i := 12) (oi := ⟨some 6, _, _, _, _, none⟩) (v := ?_) rfl (by kernel_rfl) (by kernel_rfl) (by kernel_rfl) (fun _ _ _ h => h) (Or.inl ⟨by rfl, ?_⟩) (by assumption) ?_
  rotate_left
  · intro w hSw; (try dsimp only at hSw); go_simp; (try with_reducible rfl)
  try simp only [Act.put, List.setIfInBounds_toArray, List.set_cons_zero, List.set_cons_succ]
  refine wpAnyH_take (i := 13) (oi := ⟨some 7, _, _, _, _, none⟩) (v := ?_) rfl (by kernel_rfl) (by kernel_rfl) (by kernel_rfl) (fun _ _ _ h => h) (Or.inl ⟨by rfl, ?_⟩) (by assumption) ?_
  rotate_left
  · intro w hSw; (try dsimp only at hSw); go_simp; (try with_reducible rfl)
  try simp only [Act.put, List.setIfInBounds_toArray, List.set_cons_zero, List.set_cons_succ]
  clear hHeld C1
  refine wpAnyH_done (by kernel_rfl) ?_ _
  refine NoPanic.normal ?_
  go_wp2_with fail
  go_returns
  exact ⟨⟨p', c', rfl, I3.out⟩, T3.out, G3.out⟩
end Go.Proofs.Ytenfdcjnfgjilaa
