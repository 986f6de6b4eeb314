/- Regions: Cut and Protect. -/
import Derived.Test.YtngaodfajihmmaaG7
import Derived.Test.YtngaodfajihmmaaG8
import Derived.Test.YtngaodfajihmmaaGD
namespace Go.Proofs.Ytngaodfajihmmaa
open Go.ChangeShapes Go.WideShapes Go.ChangeAt Go.RowKit Go.Maps
set_option linter.unusedSimpArgs false
set_option linter.unusedVariables false

/-- a whole answer: the error E, or the list -/
def Ans (w' : World) (base : Nat) (v : Value) (er : Int) (E : Int) (M : List Rg) : Prop := (E ≠ 0 ∧ er = E ∧ v = .slice none 0 0) ∨ (E = 0 ∧ Res w' base v er M)
theorem Res.weak {w' : World} {base base' : Nat} {v : Value} {er : Int} {M : List Rg} (h : Res w' base v er M) (hb : base' ≤ base) : Res w' base' v er M := by
  rcases h with ⟨a, b, c⟩ | h
  · exact Or.inl ⟨a, b, Go.Joins.ownsRow_le c hb⟩
  · exact Or.inr h
set_option maxHeartbeats 2000000 in
theorem cut_any (base : Nat) (p : Option Addr) (c : Nat) (L : List Rg) (hL : L.length ≤ 100) (qf qt : Int) (w : World) (h : IsL w base p L) :
    Calls Try.prog 13 #[.slice p L.length c, rgV qf qt] w fun e w' => ∃ v er, e = .returned (.tuple #[v, .int .i64 er]) ∧ Ans w' w.heap.size v er (checkN L qf qt) (chg (fun _ => Rg.zero) qf qt L) ∧ Below w.heap.size w w' := by
  have CK : Hid (∀ W : World, IsL W base p L → Calls Try.prog 26 #[.slice p L.length c, rgV qf qt] W fun e w' => e = .returned (.int .i64 (checkN L qf qt)) ∧ Below W.heap.size W w') := fun W h => check_any base p c L hL qf qt W h
  have CC : Hid (∀ W : World, IsL W base p L → Calls Try.prog 29 #[.slice p L.length c, rgV qf qt, .func (.func 30) #[] #[]] W fun e w' => ∃ v er, e = .returned (.tuple #[v, .int .i64 er]) ∧ Res w' W.heap.size v er (chg (fun _ => Rg.zero) qf qt L) ∧ Below W.heap.size W w') := fun W h => change_cut p c L hL qf qt W (h.lowl (Nat.le_refl _))
  have HI : Hid (IsL w base p L) := h
  clear h
  obtain ⟨E, hE⟩ : ∃ E, checkN L qf qt = E := ⟨_, rfl⟩
  obtain ⟨M, hM⟩ : ∃ M, chg (fun _ => Rg.zero) qf qt L = M := ⟨_, rfl⟩
  rw [hE] at CK ⊢
  rw [hM] at CC ⊢
  clear hE hM
  obtain ⟨n, hn⟩ : ∃ n, L.length = n := ⟨_, rfl⟩
  rw [hn] at CK CC ⊢
  clear hn
  by_cases cz : E = 0
  · subst cz
    go_enter Try.func13, Try.ntmps13
    go_wp2_with fail
    refine (CK.out _ (HI.out.below (Go.Joins.below_alloc1 _ _))).mono ?_
    rintro e u1 ⟨rfl, hb1⟩
    have b0 : u1.cell? ⟨w.heap.size, 0, none⟩ = some (.int .i64 qf) := (hb1.cell (p := ⟨w.heap.size, 0, none⟩) (by simp)).trans (by simp)
    have b1 : u1.cell? ⟨w.heap.size, 1, none⟩ = some (.int .i64 qt) := (hb1.cell (p := ⟨w.heap.size, 1, none⟩) (by simp)).trans (by simp)
    have lw : w.heap.size < u1.heap.size := Nat.lt_of_lt_of_le (by simp) hb1.size
    have B1 : Hid (Below w.heap.size w u1) := below_then (Go.Joins.below_alloc1 _ _) hb1
    clear hb1
    go_wp2_with fail
    refine (CC.out _ (HI.out.below B1.out)).mono ?_
    rintro e u2 ⟨v, er, rfl, hr, hb2⟩
    have B2 : Hid (Below w.heap.size w u2) := below_then B1.out hb2
    have A2 : Hid (Ans u2 w.heap.size v er 0 M) := Or.inr ⟨rfl, hr.weak (Nat.le_of_lt lw)⟩
    clear hr hb2
    go_wp2_with fail
    go_returns
    exact ⟨v, er, rfl, A2.out, B2.out⟩
  · have eb : (E == 0) = false := by simp [cz]
    have A1 : Hid (∀ W : World, Ans W w.heap.size (.slice none 0 0) E E M) := fun W => Or.inl ⟨cz, rfl, rfl⟩
    clear cz
    go_enter Try.func13, Try.ntmps13
    go_wp2_with fail
    refine (CK.out _ (HI.out.below (Go.Joins.below_alloc1 _ _))).mono ?_
    rintro e u1 ⟨rfl, hb1⟩
    have B1 : Hid (Below w.heap.size w u1) := below_then (Go.Joins.below_alloc1 _ _) hb1
    clear hb1
    go_wp2_with fail
    go_returns
    exact ⟨.slice none 0 0, E, rfl, A1.out _, B1.out⟩
set_option maxHeartbeats 4000000 in
theorem prot_any (base : Nat) (p : Option Addr) (c : Nat) (L : List Rg) (hL : L.length ≤ 100) (qf qt : Int) (pa pb pc : Bool) (w : World) (h : IsL w base p L) :
    Calls Try.prog 14 #[.slice p L.length c, rgV qf qt, pmV pa pb pc] w fun e w' => ∃ v er, e = .returned (.tuple #[v, .int .i64 er]) ∧ Ans w' w.heap.size v er (protN L qf qt) (chg (fun r => r.may pa pb pc) qf qt L) ∧ Below w.heap.size w w' := by
  have CK : Hid (∀ W : World, IsL W base p L → Calls Try.prog 26 #[.slice p L.length c, rgV qf qt] W fun e w' => e = .returned (.int .i64 (checkN L qf qt)) ∧ Below W.heap.size W w') := fun W h => check_any base p c L hL qf qt W h
  have CC : Hid (∀ (W : World) (B0 : Nat), B0 < W.heap.size → IsPm W B0 pa pb pc → IsL W base p L → Calls Try.prog 29 #[.slice p L.length c, rgV qf qt, .func (.func 31) #[] #[.pointer (some ⟨B0, 0, none⟩)]] W fun e w' => ∃ v er, e = .returned (.tuple #[v, .int .i64 er]) ∧ Res w' W.heap.size v er (chg (fun r => r.may pa pb pc) qf qt L) ∧ Below W.heap.size W w') := fun W B0 hB hp h => change_prot p c L hL qf qt W (h.lowl (Nat.le_refl _)) B0 pa pb pc hB hp
  have HI : Hid (IsL w base p L) := h
  clear h
  have EP : Hid (protN L qf qt = if checkN L qf qt = 0 then (if cntR qf qt L < qt - qf then 5 else 0) else checkN L qf qt) := rfl
  have CNH : Hid (checkN L qf qt = 0 → ∀ W : World, IsL W base p L → Calls Try.prog 23 #[.slice p L.length c, rgV qf qt] W fun e w' => e = .returned (.int .i64 (cntR qf qt L)) ∧ Below W.heap.size W w') := fun q W h => count_any base p c L hL (good_num (check_zero q).2) qf qt W h
  have RI : Hid (checkN L qf qt = 0 → 0 ≤ qf ∧ qf < qt ∧ qt ≤ 34359738368 ∧ qt - qf ≤ 65536) := fun q => right_is (check_zero q).1
  obtain ⟨E, hE⟩ : ∃ E, checkN L qf qt = E := ⟨_, rfl⟩
  obtain ⟨M, hM⟩ : ∃ M, chg (fun r => r.may pa pb pc) qf qt L = M := ⟨_, rfl⟩
  obtain ⟨N, hN⟩ : ∃ N, cntR qf qt L = N := ⟨_, rfl⟩
  obtain ⟨EE, hEE⟩ : ∃ x, protN L qf qt = x := ⟨_, rfl⟩
  rw [hE] at CK EP CNH RI
  rw [hM] at CC ⊢
  rw [hN] at EP CNH
  rw [hEE] at EP ⊢
  clear hE hM hN hEE
  obtain ⟨n, hn⟩ : ∃ n, L.length = n := ⟨_, rfl⟩
  rw [hn] at CK CC CNH ⊢
  clear hn
  by_cases cz : E = 0
  · subst cz
    have CN : Hid _ := CNH.out rfl
    obtain ⟨k1, k2, k3, k4⟩ := RI.out rfl
    have EQ : Hid (EE = if N < qt - qf then 5 else 0) := by
      have := EP.out
      rw [if_pos rfl] at this; exact this
    clear CNH RI EP
    by_cases cn : N < qt - qf
    · have e5 : EE = 5 := by rw [EQ.out, if_pos cn]
      subst e5
      have A1 : Hid (∀ W : World, Ans W w.heap.size (.slice none 0 0) 5 5 M) := fun W => Or.inl ⟨by omega, rfl, rfl⟩
      clear EQ
      go_enter Try.func14, Try.ntmps14
      go_wp2_with fail
      refine (CK.out _ (HI.out.below (Go.Joins.below_alloc2 _ _ _))).mono ?_
      rintro e u1 ⟨rfl, hb1⟩
      have b0 : u1.cell? ⟨w.heap.size, 0, none⟩ = some (.int .i64 qf) := (hb1.cell (p := ⟨w.heap.size, 0, none⟩) (by show w.heap.size < _; rw [World.size_alloc, World.size_alloc]; omega)).trans (by simp)
      have b1 : u1.cell? ⟨w.heap.size, 1, none⟩ = some (.int .i64 qt) := (hb1.cell (p := ⟨w.heap.size, 1, none⟩) (by show w.heap.size < _; rw [World.size_alloc, World.size_alloc]; omega)).trans (by simp)
      have m0 : u1.cell? ⟨w.heap.size + 1, 0, none⟩ = some (.bool pa) := (hb1.cell (p := ⟨w.heap.size + 1, 0, none⟩) (by show w.heap.size + 1 < _; rw [World.size_alloc, World.size_alloc]; omega)).trans (by simp)
      have m1 : u1.cell? ⟨w.heap.size + 1, 1, none⟩ = some (.bool pb) := (hb1.cell (p := ⟨w.heap.size + 1, 1, none⟩) (by show w.heap.size + 1 < _; rw [World.size_alloc, World.size_alloc]; omega)).trans (by simp)
      have m2 : u1.cell? ⟨w.heap.size + 1, 2, none⟩ = some (.bool pc) := (hb1.cell (p := ⟨w.heap.size + 1, 2, none⟩) (by show w.heap.size + 1 < _; rw [World.size_alloc, World.size_alloc]; omega)).trans (by simp)
      have lw : w.heap.size + 1 < u1.heap.size := Nat.lt_of_lt_of_le (by rw [World.size_alloc, World.size_alloc]; omega) hb1.size
      have B1 : Hid (Below w.heap.size w u1) := below_then (Go.Joins.below_alloc2 _ _ _) hb1
      clear hb1
      go_wp2_with fail
      refine wp_region_noPanic ?_
      refine wp_region_held_drew (S := fun c => c.cell? ⟨w.heap.size, 0, none⟩ = some (.int .i64 qf) ∧ c.cell? ⟨w.heap.size, 1, none⟩ = some (.int .i64 qt) ∧ c.cell? ⟨w.heap.size + 1, 0, none⟩ = some (.bool pa) ∧ c.cell? ⟨w.heap.size + 1, 1, none⟩ = some (.bool pb) ∧ c.cell? ⟨w.heap.size + 1, 2, none⟩ = some (.bool pc)) (by kernel_rfl) ?_ (fun hHeld => ?_)
      · exact ⟨b0, b1, m0, m1, m2⟩
      refine wpAnyH_take (i := 0) (oi := ⟨some 15, _, _, _, _, none⟩) (v := ?_) rfl (by kernel_rfl) (by kernel_rfl) (by kernel_rfl) (fun _ _ _ h => h) (Or.inl ⟨by rfl, ?_⟩) (by assumption) ?_
      rotate_left
      · intro w hSw; (try dsimp only at hSw); go_simp; (try with_reducible rfl)
      try simp only [Act.put, List.setIfInBounds_toArray, List.set_cons_zero, List.set_cons_succ]
      refine wpAnyH_take (i := 1) (oi := ⟨some 16, _, _, _, _, none⟩) (v := .agg #[.int .i64 qf, .int .i64 qt]) rfl (by kernel_rfl) (by kernel_rfl) (by kernel_rfl) (fun _ _ _ h => h) (Or.inl ⟨by rfl, ?_⟩) (by assumption) ?_
      · intro w hSw; (try dsimp only at hSw); go_simp; (try simp [hSw])
      try simp only [Act.put, List.setIfInBounds_toArray, List.set_cons_zero, List.set_cons_succ]
      refine wpAnyH_take (i := 3) (oi := ⟨some 18, _, _, _, _, none⟩) (v := ?_) rfl (by kernel_rfl) (by kernel_rfl) (by kernel_rfl) (fun _ _ _ h => h) (Or.inl ⟨by rfl, ?_⟩) (by assumption) ?_
      rotate_left
      · intro w hSw; (try dsimp only at hSw); go_simp; (try with_reducible rfl)
      try simp only [Act.put, List.setIfInBounds_toArray, List.set_cons_zero, List.set_cons_succ]
      refine wpAnyH_take (i := 4) (oi := ⟨some 19, _, _, _, _, none⟩) (v := ?_) rfl (by kernel_rfl) (by kernel_rfl) (by kernel_rfl) (fun _ _ _ h => h) (Or.inl ⟨by rfl, ?_⟩) (by assumption) ?_
      rotate_left
      · intro w hSw; (try dsimp only at hSw); go_simp; (try with_reducible rfl)
      try simp only [Act.put, List.setIfInBounds_toArray, List.set_cons_zero, List.set_cons_succ]
      refine wpAnyH_take (i := 5) (oi := ⟨some 20, _, _, _, _, none⟩) (v := ?_) rfl (by kernel_rfl) (by kernel_rfl) (by kernel_rfl) (fun _ _ _ h => h) (Or.inl ⟨by rfl, ?_⟩) (by assumption) ?_
      rotate_left
      · intro w hSw; (try dsimp only at hSw); go_simp; (try with_reducible rfl)
      try simp only [Act.put, List.setIfInBounds_toArray, List.set_cons_zero, List.set_cons_succ]
      refine wpAnyH_take (i := 6) (oi := ⟨some 21, _, _, _, _, none⟩) (v := ?_) rfl (by kernel_rfl) (by kernel_rfl) (by kernel_rfl) (fun _ _ _ h => h) (Or.inl ⟨by rfl, ?_⟩) (by assumption) ?_
      rotate_left
      · intro w hSw; (try dsimp only at hSw); go_simp; (try with_reducible rfl)
      try simp only [Act.put, List.setIfInBounds_toArray, List.set_cons_zero, List.set_cons_succ]
      refine wpAnyH_take (i := 7) (oi := ⟨some 22, _, _, _, _, none⟩) (v := .int .i64 (qt - qf)) rfl (by kernel_rfl) (by kernel_rfl) (by kernel_rfl) (fun _ _ _ h => h) (Or.inl ⟨by rfl, ?_⟩) (by assumption) ?_
      · intro w hSw; (try dsimp only at hSw); go_simp; (try simp); (try (simp only [IntKind.wrap_i64])); (try omega)
      try simp only [Act.put, List.setIfInBounds_toArray, List.set_cons_zero, List.set_cons_succ]
      have BD : Hid (Below w.heap.size w u1.drew) := below_drew B1.out
      have lD : w.heap.size + 1 < u1.drew.heap.size := lw
      clear B1 b0 b1 m0 m1 m2 lw
      generalize u1.drew = U at BD lD hHeld ⊢
      refine wpAnyH_ready (rs := [2]) (by kernel_rfl) (by simp) ?_
      refine AllReadyH.cons (o := ⟨some 17, _, _, _, _, none⟩) rfl (fun K hK => ?_) AllReadyH.nil
      go_simp
      go_wp2_with (go_at_call 23; refine (CN.out _ (HI.out.below BD.out)).mono ?_; rintro e u3 ⟨rfl, hb3⟩)
      have B3 : Hid (Below w.heap.size w u3) := below_then BD.out hb3
      obtain ⟨i0, i1, i2, i3, i4⟩ := hHeld
      have l3 : w.heap.size + 1 < u3.heap.size := Nat.lt_of_lt_of_le lD hb3.size
      have b0 : u3.cell? ⟨w.heap.size, 0, none⟩ = some (.int .i64 qf) := (hb3.cell (p := ⟨w.heap.size, 0, none⟩) (by show w.heap.size < _; omega)).trans i0
      have b1 : u3.cell? ⟨w.heap.size, 1, none⟩ = some (.int .i64 qt) := (hb3.cell (p := ⟨w.heap.size, 1, none⟩) (by show w.heap.size < _; omega)).trans i1
      have m0 : u3.cell? ⟨w.heap.size + 1, 0, none⟩ = some (.bool pa) := (hb3.cell (p := ⟨w.heap.size + 1, 0, none⟩) (by show w.heap.size + 1 < _; omega)).trans i2
      have m1 : u3.cell? ⟨w.heap.size + 1, 1, none⟩ = some (.bool pb) := (hb3.cell (p := ⟨w.heap.size + 1, 1, none⟩) (by show w.heap.size + 1 < _; omega)).trans i3
      have m2 : u3.cell? ⟨w.heap.size + 1, 2, none⟩ = some (.bool pc) := (hb3.cell (p := ⟨w.heap.size + 1, 2, none⟩) (by show w.heap.size + 1 < _; omega)).trans i4
      refine hK.out _ _ ⟨b0, b1, m0, m1, m2⟩ (fun hHeld => ?_)
      clear hK K i0 i1 i2 i3 i4 hb3 BD lD
      try simp only [Act.put, List.setIfInBounds_toArray, List.set_cons_zero, List.set_cons_succ]
      refine wpAnyH_take (i := 8) (oi := ⟨some 23, _, _, _, _, none⟩) (v := .bool true) rfl (by kernel_rfl) (by kernel_rfl) (by kernel_rfl) (fun _ _ _ h => h) (Or.inl ⟨by rfl, ?_⟩) (by assumption) ?_
      · intro w hSw; (try dsimp only at hSw); go_simp; (try simp); (try omega)
      try simp only [Act.put, List.setIfInBounds_toArray, List.set_cons_zero, List.set_cons_succ]
      clear hHeld
      refine wpAnyH_done (by kernel_rfl) ?_ _
      refine NoPanic.normal ?_
      go_wp2_with fail
      go_returns
      exact ⟨.slice none 0 0, 5, rfl, A1.out _, B3.out⟩
    · have e5 : EE = 0 := by rw [EQ.out, if_neg cn]
      subst e5
      clear EQ
      go_enter Try.func14, Try.ntmps14
      go_wp2_with fail
      refine (CK.out _ (HI.out.below (Go.Joins.below_alloc2 _ _ _))).mono ?_
      rintro e u1 ⟨rfl, hb1⟩
      have b0 : u1.cell? ⟨w.heap.size, 0, none⟩ = some (.int .i64 qf) := (hb1.cell (p := ⟨w.heap.size, 0, none⟩) (by show w.heap.size < _; rw [World.size_alloc, World.size_alloc]; omega)).trans (by simp)
      have b1 : u1.cell? ⟨w.heap.size, 1, none⟩ = some (.int .i64 qt) := (hb1.cell (p := ⟨w.heap.size, 1, none⟩) (by show w.heap.size < _; rw [World.size_alloc, World.size_alloc]; omega)).trans (by simp)
      have m0 : u1.cell? ⟨w.heap.size + 1, 0, none⟩ = some (.bool pa) := (hb1.cell (p := ⟨w.heap.size + 1, 0, none⟩) (by show w.heap.size + 1 < _; rw [World.size_alloc, World.size_alloc]; omega)).trans (by simp)
      have m1 : u1.cell? ⟨w.heap.size + 1, 1, none⟩ = some (.bool pb) := (hb1.cell (p := ⟨w.heap.size + 1, 1, none⟩) (by show w.heap.size + 1 < _; rw [World.size_alloc, World.size_alloc]; omega)).trans (by simp)
      have m2 : u1.cell? ⟨w.heap.size + 1, 2, none⟩ = some (.bool pc) := (hb1.cell (p := ⟨w.heap.size + 1, 2, none⟩) (by show w.heap.size + 1 < _; rw [World.size_alloc, World.size_alloc]; omega)).trans (by simp)
      have lw : w.heap.size + 1 < u1.heap.size := Nat.lt_of_lt_of_le (by rw [World.size_alloc, World.size_alloc]; omega) hb1.size
      have B1 : Hid (Below w.heap.size w u1) := below_then (Go.Joins.below_alloc2 _ _ _) hb1
      clear hb1
      go_wp2_with fail
      refine wp_region_noPanic ?_
      refine wp_region_held_drew (S := fun c => c.cell? ⟨w.heap.size, 0, none⟩ = some (.int .i64 qf) ∧ c.cell? ⟨w.heap.size, 1, none⟩ = some (.int .i64 qt) ∧ c.cell? ⟨w.heap.size + 1, 0, none⟩ = some (.bool pa) ∧ c.cell? ⟨w.heap.size + 1, 1, none⟩ = some (.bool pb) ∧ c.cell? ⟨w.heap.size + 1, 2, none⟩ = some (.bool pc)) (by kernel_rfl) ?_ (fun hHeld => ?_)
      · exact ⟨b0, b1, m0, m1, m2⟩
      refine wpAnyH_take (i := 0) (oi := ⟨some 15, _, _, _, _, none⟩) (v := ?_) rfl (by kernel_rfl) (by kernel_rfl) (by kernel_rfl) (fun _ _ _ h => h) (Or.inl ⟨by rfl, ?_⟩) (by assumption) ?_
      rotate_left
      · intro w hSw; (try dsimp only at hSw); go_simp; (try with_reducible rfl)
      try simp only [Act.put, List.setIfInBounds_toArray, List.set_cons_zero, List.set_cons_succ]
      refine wpAnyH_take (i := 1) (oi := ⟨some 16, _, _, _, _, none⟩) (v := .agg #[.int .i64 qf, .int .i64 qt]) rfl (by kernel_rfl) (by kernel_rfl) (by kernel_rfl) (fun _ _ _ h => h) (Or.inl ⟨by rfl, ?_⟩) (by assumption) ?_
      · intro w hSw; (try dsimp only at hSw); go_simp; (try simp [hSw])
      try simp only [Act.put, List.setIfInBounds_toArray, List.set_cons_zero, List.set_cons_succ]
      refine wpAnyH_take (i := 3) (oi := ⟨some 18, _, _, _, _, none⟩) (v := ?_) rfl (by kernel_rfl) (by kernel_rfl) (by kernel_rfl) (fun _ _ _ h => h) (Or.inl ⟨by rfl, ?_⟩) (by assumption) ?_
      rotate_left
      · intro w hSw; (try dsimp only at hSw); go_simp; (try with_reducible rfl)
      try simp only [Act.put, List.setIfInBounds_toArray, List.set_cons_zero, List.set_cons_succ]
      refine wpAnyH_take (i := 4) (oi := ⟨some 19, _, _, _, _, none⟩) (v := ?_) rfl (by kernel_rfl) (by kernel_rfl) (by kernel_rfl) (fun _ _ _ h => h) (Or.inl ⟨by rfl, ?_⟩) (by assumption) ?_
      rotate_left
      · intro w hSw; (try dsimp only at hSw); go_simp; (try with_reducible rfl)
      try simp only [Act.put, List.setIfInBounds_toArray, List.set_cons_zero, List.set_cons_succ]
      refine wpAnyH_take (i := 5) (oi := ⟨some 20, _, _, _, _, none⟩) (v := ?_) rfl (by kernel_rfl) (by kernel_rfl) (by kernel_rfl) (fun _ _ _ h => h) (Or.inl ⟨by rfl, ?_⟩) (by assumption) ?_
      rotate_left
      · intro w hSw; (try dsimp only at hSw); go_simp; (try with_reducible rfl)
      try simp only [Act.put, List.setIfInBounds_toArray, List.set_cons_zero, List.set_cons_succ]
      refine wpAnyH_take (i := 6) (oi := ⟨some 21, _, _, _, _, none⟩) (v := ?_) rfl (by kernel_rfl) (by kernel_rfl) (by kernel_rfl) (fun _ _ _ h => h) (Or.inl ⟨by rfl, ?_⟩) (by assumption) ?_
      rotate_left
      · intro w hSw; (try dsimp only at hSw); go_simp; (try with_reducible rfl)
      try simp only [Act.put, List.setIfInBounds_toArray, List.set_cons_zero, List.set_cons_succ]
      refine wpAnyH_take (i := 7) (oi := ⟨some 22, _, _, _, _, none⟩) (v := .int .i64 (qt - qf)) rfl (by kernel_rfl) (by kernel_rfl) (by kernel_rfl) (fun _ _ _ h => h) (Or.inl ⟨by rfl, ?_⟩) (by assumption) ?_
      · intro w hSw; (try dsimp only at hSw); go_simp; (try simp); (try (simp only [IntKind.wrap_i64])); (try omega)
      try simp only [Act.put, List.setIfInBounds_toArray, List.set_cons_zero, List.set_cons_succ]
      have BD : Hid (Below w.heap.size w u1.drew) := below_drew B1.out
      have lD : w.heap.size + 1 < u1.drew.heap.size := lw
      clear B1 b0 b1 m0 m1 m2 lw
      generalize u1.drew = U at BD lD hHeld ⊢
      refine wpAnyH_ready (rs := [2]) (by kernel_rfl) (by simp) ?_
      refine AllReadyH.cons (o := ⟨some 17, _, _, _, _, none⟩) rfl (fun K hK => ?_) AllReadyH.nil
      go_simp
      go_wp2_with (go_at_call 23; refine (CN.out _ (HI.out.below BD.out)).mono ?_; rintro e u3 ⟨rfl, hb3⟩)
      have B3 : Hid (Below w.heap.size w u3) := below_then BD.out hb3
      obtain ⟨i0, i1, i2, i3, i4⟩ := hHeld
      have l3 : w.heap.size + 1 < u3.heap.size := Nat.lt_of_lt_of_le lD hb3.size
      have b0 : u3.cell? ⟨w.heap.size, 0, none⟩ = some (.int .i64 qf) := (hb3.cell (p := ⟨w.heap.size, 0, none⟩) (by show w.heap.size < _; omega)).trans i0
      have b1 : u3.cell? ⟨w.heap.size, 1, none⟩ = some (.int .i64 qt) := (hb3.cell (p := ⟨w.heap.size, 1, none⟩) (by show w.heap.size < _; omega)).trans i1
      have m0 : u3.cell? ⟨w.heap.size + 1, 0, none⟩ = some (.bool pa) := (hb3.cell (p := ⟨w.heap.size + 1, 0, none⟩) (by show w.heap.size + 1 < _; omega)).trans i2
      have m1 : u3.cell? ⟨w.heap.size + 1, 1, none⟩ = some (.bool pb) := (hb3.cell (p := ⟨w.heap.size + 1, 1, none⟩) (by show w.heap.size + 1 < _; omega)).trans i3
      have m2 : u3.cell? ⟨w.heap.size + 1, 2, none⟩ = some (.bool pc) := (hb3.cell (p := ⟨w.heap.size + 1, 2, none⟩) (by show w.heap.size + 1 < _; omega)).trans i4
      refine hK.out _ _ ⟨b0, b1, m0, m1, m2⟩ (fun hHeld => ?_)
      clear hK K i0 i1 i2 i3 i4 hb3 BD lD
      try simp only [Act.put, List.setIfInBounds_toArray, List.set_cons_zero, List.set_cons_succ]
      refine wpAnyH_take (i := 8) (oi := ⟨some 23, _, _, _, _, none⟩) (v := .bool false) rfl (by kernel_rfl) (by kernel_rfl) (by kernel_rfl) (fun _ _ _ h => h) (Or.inl ⟨by rfl, ?_⟩) (by assumption) ?_
      · intro w hSw; (try dsimp only at hSw); go_simp; (try simp); (try omega)
      try simp only [Act.put, List.setIfInBounds_toArray, List.set_cons_zero, List.set_cons_succ]
      clear hHeld
      refine wpAnyH_done (by kernel_rfl) ?_ _
      refine NoPanic.normal ?_
      go_wp2_with fail
      refine (CC.out _ (w.heap.size + 1) l3 ⟨m0, m1, m2⟩ (HI.out.below B3.out)).mono ?_
      rintro e u4 ⟨v, er, rfl, hr, hb4⟩
      have B4 : Hid (Below w.heap.size w u4) := below_then B3.out hb4
      have A4 : Hid (Ans u4 w.heap.size v er 0 M) := Or.inr ⟨rfl, hr.weak (by omega)⟩
      clear hr hb4
      go_wp2_with fail
      go_returns
      exact ⟨v, er, rfl, A4.out, B4.out⟩
  · have eb : (E == 0) = false := by simp [cz]
    have ee : EE = E := by rw [EP.out, if_neg cz]
    subst ee
    have A1 : Hid (∀ W : World, Ans W w.heap.size (.slice none 0 0) EE EE M) := fun W => Or.inl ⟨cz, rfl, rfl⟩
    clear cz EP CNH RI
    go_enter Try.func14, Try.ntmps14
    go_wp2_with fail
    refine (CK.out _ (HI.out.below (Go.Joins.below_alloc2 _ _ _))).mono ?_
    rintro e u1 ⟨rfl, hb1⟩
    have B1 : Hid (Below w.heap.size w u1) := below_then (Go.Joins.below_alloc2 _ _ _) hb1
    clear hb1
    go_wp2_with fail
    go_returns
    exact ⟨.slice none 0 0, EE, rfl, A1.out _, B1.out⟩
end Go.Proofs.Ytngaodfajihmmaa
