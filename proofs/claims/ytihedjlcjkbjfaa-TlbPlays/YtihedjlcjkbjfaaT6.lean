/- The translations' store: Fill. -/
import Derived.Test.YtihedjlcjkbjfaaT5
namespace Go.Proofs.Ytihedjlcjkbjfaa
open Go.ChangeShapes Go.WideShapes Go.ChangeAt Go.RowKit Go.Maps
set_option linter.unusedSimpArgs false
set_option linter.unusedVariables false
set_option maxRecDepth 8000

theorem find_any (b : Nat) (T : Nat → Ln) (tag page : Int) (w : World) (h : IsTlb w b T) :
    Calls Try.prog 25 #[.pointer (some ⟨b, 0, none⟩), .int .i64 tag, .int .i64 page] w fun e w' => e = .returned (.tuple #[(findT T tag page).1.val, .bool (findT T tag page).2]) ∧ Below w.heap.size w w' := by
  unfold findT
  by_cases hp : page < 0
  · simp only [if_pos hp]; exact find_neg b tag page hp w
  · simp only [if_neg hp]
    have hs : page % 8 = (((page % 8).toNat : Nat) : Int) := by omega
    by_cases f0 : (T (2 * (page % 8).toNat)).fits tag page = true
    · simp only [f0, if_true]; exact find_a b T tag page _ _ _ (by omega) hs rfl rfl f0 w h
    · have f0' : (T (2 * (page % 8).toNat)).fits tag page = false := by simpa using f0
      simp only [f0', Bool.false_eq_true, if_false]
      by_cases f1 : (T (2 * (page % 8).toNat + 1)).fits tag page = true
      · simp only [f1, if_true]; exact find_b b T tag page _ _ _ (by omega) hs rfl rfl f0' f1 w h
      · have f1' : (T (2 * (page % 8).toNat + 1)).fits tag page = false := by simpa using f1
        simp only [f1', Bool.false_eq_true, if_false]
        exact find_c b T tag page _ _ _ (by omega) hs rfl rfl f0' f1' w h
theorem cell_setCells_ne {w : World} {b o : Nat} {vs : List Value} {x : Addr} (h : x.block ≠ b) : (w.setCells b o vs).cell? x = w.cell? x := World.cell?_setCells_out b vs o w x (fun hb _ => absurd hb h)
theorem wanted_mp {c : Prop} [Decidable c] {a b : Prop} (h : c) (ha : a) : if c then a else b := by rw [if_pos h]; exact ha
set_option maxHeartbeats 400000 in
theorem form_any (l : Ln) (w : World) : Calls Try.prog 42 #[l.val] w fun e w' => e = .returned (.bool l.ok) ∧ Below w.heap.size w w' := by
  obtain ⟨v, t, p, f, lw, lu, lx, g, d⟩ := l
  cases v
  · go_enter Try.func42, Try.ntmps42
    go_wp2
    go_returns
    exact ⟨by simp [Ln.ok], Go.Joins.below_alloc1 _ _⟩
  · by_cases h1 : 0 ≤ t
    · by_cases h2 : t < 4096
      · by_cases h3 : 0 ≤ p
        · by_cases h4 : 0 ≤ f
          · have e1 : decide (0 ≤ t) = true := by simp [h1]
            have e2 : decide (t < 4096) = true := by simp [h2]
            have e3 : decide (0 ≤ p) = true := by simp [h3]
            have e4 : decide (0 ≤ f) = true := by simp [h4]
            go_enter Try.func42, Try.ntmps42
            go_wp2
            go_returns
            exact ⟨by simp only [Ln.ok, e1, e2, e3, e4]; rfl, Go.Joins.below_alloc1 _ _⟩
          · have e1 : decide (0 ≤ t) = true := by simp [h1]
            have e2 : decide (t < 4096) = true := by simp [h2]
            have e3 : decide (0 ≤ p) = true := by simp [h3]
            have e4 : decide (0 ≤ f) = false := by simp; omega
            go_enter Try.func42, Try.ntmps42
            go_wp2
            go_returns
            exact ⟨by simp only [Ln.ok, e1, e2, e3, e4]; rfl, Go.Joins.below_alloc1 _ _⟩
        · have e1 : decide (0 ≤ t) = true := by simp [h1]
          have e2 : decide (t < 4096) = true := by simp [h2]
          have e3 : decide (0 ≤ p) = false := by simp; omega
          go_enter Try.func42, Try.ntmps42
          go_wp2
          go_returns
          exact ⟨by simp only [Ln.ok, e1, e2, e3]; rfl, Go.Joins.below_alloc1 _ _⟩
      · have e1 : decide (0 ≤ t) = true := by simp [h1]
        have e2 : decide (t < 4096) = false := by simp; omega
        go_enter Try.func42, Try.ntmps42
        go_wp2
        go_returns
        exact ⟨by simp only [Ln.ok, e1, e2]; rfl, Go.Joins.below_alloc1 _ _⟩
    · have e1 : decide (0 ≤ t) = false := by simp; omega
      go_enter Try.func42, Try.ntmps42
      go_wp2
      go_returns
      exact ⟨by simp only [Ln.ok, e1]; rfl, Go.Joins.below_alloc1 _ _⟩
set_option maxHeartbeats 400000 in
theorem fill_way (b : Nat) (l : Ln) (way : Int) (hw : way < 0 ∨ 2 ≤ way) (w : World) :
    Calls Try.prog 33 #[.pointer (some ⟨b, 0, none⟩), .int .i64 way, l.val] w fun e w' => e = .returned (.int .i64 1) ∧ Below w.heap.size w w' := by
  rcases hw with hw | hw
  · have e1 : decide (way < 0) = true := by simp [hw]
    go_enter Try.func33, Try.ntmps33
    go_wp2_with fail
    go_ret
    exact ⟨rfl, Go.Joins.below_alloc1 _ _⟩
  · have e1 : decide (way < 0) = false := by simp; omega
    have e2 : decide (2 ≤ way) = true := by simp [hw]
    go_enter Try.func33, Try.ntmps33
    go_wp2_with fail
    go_ret
    exact ⟨rfl, Go.Joins.below_alloc1 _ _⟩
set_option maxHeartbeats 400000 in
theorem fill_form (b : Nat) (l : Ln) (way : Int) (h0 : 0 ≤ way) (h2 : way < 2) (hl : l.ok = false) (w : World) :
    Calls Try.prog 33 #[.pointer (some ⟨b, 0, none⟩), .int .i64 way, l.val] w fun e w' => e = .returned (.int .i64 1) ∧ Below w.heap.size w w' := by
  have e1 : decide (way < 0) = false := by simp; omega
  have e2 : decide (2 ≤ way) = false := by simp; omega
  have FO : Hid (∀ w : World, Calls Try.prog 42 #[.agg #[.bool l.v, .int .i64 l.t, .int .i64 l.p, .int .i64 l.f, .bool l.w, .bool l.u, .bool l.x, .bool l.g, .bool l.d]] w fun e w' => e = .returned (.bool false) ∧ Below w.heap.size w w') := fun w => by rw [← hl]; exact form_any l w
  clear hl
  go_enter Try.func33, Try.ntmps33
  go_wp2_with fail
  refine (FO.out _).mono ?_
  rintro e u ⟨rfl, hb⟩
  go_wp2_with fail
  go_ret
  exact ⟨rfl, below_then (Go.Joins.below_alloc1 _ _) hb⟩
def fillT (T : Nat → Ln) (way : Int) (l : Ln) : Nat → Ln := fun i => if i = 2 * (l.p % 8).toNat + way.toNat then l else dropT T l.beats 16 i
set_option maxHeartbeats 1000000 in
theorem fill_ok (b : Nat) (T : Nat → Ln) (l : Ln) (y s : Nat) (hy : y < 2) (hl : l.ok = true) (hp : 0 ≤ l.p) (hs : l.p % 8 = (s : Int)) (w : World) (h : IsTlb w b T) :
    Calls Try.prog 33 #[.pointer (some ⟨b, 0, none⟩), .int .i64 y, l.val] w fun e w' => e = .returned (.int .i64 0) ∧ IsTlb w' b (fillT T y l) ∧ w.grownBy w' (some b) := by
  have hmf : ∀ (fn : Fn) (first cap : Array Value) (w : World), (Instr.makeFunc fn first cap).run Try.prog w = .ok (.func fn first cap) w := fun _ _ _ _ => rfl
  have hb := h.2.2
  have hs8 : s < 8 := by omega
  have e1 : decide ((y : Int) < 0) = false := by simp
  have e2 : decide (2 ≤ (y : Int)) = false := by simp; omega
  have htm : l.p.tmod 8 = (s : Int) := by rw [Int.tmod_eq_emod_of_nonneg hp]; exact hs
  have FO : Hid (∀ w : World, Calls Try.prog 42 #[.agg #[.bool l.v, .int .i64 l.t, .int .i64 l.p, .int .i64 l.f, .bool l.w, .bool l.u, .bool l.x, .bool l.g, .bool l.d]] w fun e w' => e = .returned (.bool true) ∧ Below w.heap.size w w') := fun w => by rw [← hl]; exact form_any l w
  have D : Hid (∀ W : World, IsTlb W b T → (W.cell? ⟨w.heap.size, 1, none⟩ = some (.int .i64 l.t) ∧ W.cell? ⟨w.heap.size, 2, none⟩ = some (.int .i64 l.p) ∧ W.cell? ⟨w.heap.size, 7, none⟩ = some (.bool l.g) ∧ w.heap.size < W.heap.size) → Calls Try.prog 43 #[.pointer (some ⟨b, 0, none⟩), .func (.func 44) #[] #[.pointer (some ⟨w.heap.size, 0, none⟩)]] W fun e w' => e = .returned (.tuple #[]) ∧ IsTlb w' b (dropT T l.beats 16) ∧ W.grownBy w' (some b)) := fun W hT hc =>
    drop1 b 44 w.heap.size T l.beats (fun W => W.cell? ⟨w.heap.size, 1, none⟩ = some (.int .i64 l.t) ∧ W.cell? ⟨w.heap.size, 2, none⟩ = some (.int .i64 l.p) ∧ W.cell? ⟨w.heap.size, 7, none⟩ = some (.bool l.g) ∧ w.heap.size < W.heap.size)
      (fun W W' c hg => ⟨cell_grown hg (by omega) (by omega) c.1, cell_grown hg (by omega) (by omega) c.2.1, cell_grown hg (by omega) (by omega) c.2.2.1, Nat.lt_of_lt_of_le c.2.2.2 hg.size⟩)
      (fun args w => by kernel_rfl)
      (fun W x c => fill_cl l x _ W c.1 c.2.1 c.2.2.1 c.2.2.2) W hT hc
  have HT : Hid (IsTlb w b T) := h
  have HS : Hid (l.p % 8 = (s : Int)) := hs
  have k0 : (0 : Int) ≤ (s : Int) := by omega
  have k8 : (s : Int) < 8 := by omega
  have j0 : (0 : Int) ≤ (y : Int) := by omega
  have j2 : (y : Int) < 2 := by omega
  clear h hl
  go_enter Try.func33, Try.ntmps33
  go_wp2_with fail
  refine (FO.out _).mono ?_
  rintro e u1 ⟨rfl, hb1⟩
  have O1 : Hid (u1.heap[w.heap.size]? = some (.cells #[.bool l.v, .int .i64 l.t, .int .i64 l.p, .int .i64 l.f, .bool l.w, .bool l.u, .bool l.x, .bool l.g, .bool l.d] 54 (0, 0))) := (hb1.block _ (by simp)).trans (own1 w _)
  have B1 : Hid (Below w.heap.size w u1) := below_then (Go.Joins.below_alloc1 _ _) hb1
  have z1 : w.heap.size < u1.heap.size := Nat.lt_of_lt_of_le (by simp) hb1.size
  clear hb1
  go_wp2_with fail
  refine (D.out _ (HT.out.below B1.out) ⟨Go.Joins.cell_of_block O1.out 1, Go.Joins.cell_of_block O1.out 2, Go.Joins.cell_of_block O1.out 7, z1⟩).mono ?_
  rintro e u2 ⟨rfl, hT2, hg2⟩
  have T2 : Hid (IsTlb u2 b (dropT T l.beats 16)) := hT2
  have G2 : Hid (w.grownBy u2 (some b)) := grown_trans (grown_of_below B1.out _) hg2
  have TH : Hid (u2.there b (s * 18 + y * 9) 9) := hT2.free _ _ (by omega)
  have c0 : u2.cell? ⟨w.heap.size, 0, none⟩ = some (.bool l.v) := cell_grown hg2 z1 (by omega) (Go.Joins.cell_of_block O1.out 0)
  have c1 : u2.cell? ⟨w.heap.size, 1, none⟩ = some (.int .i64 l.t) := cell_grown hg2 z1 (by omega) (Go.Joins.cell_of_block O1.out 1)
  have c2 : u2.cell? ⟨w.heap.size, 2, none⟩ = some (.int .i64 l.p) := cell_grown hg2 z1 (by omega) (Go.Joins.cell_of_block O1.out 2)
  have c3 : u2.cell? ⟨w.heap.size, 3, none⟩ = some (.int .i64 l.f) := cell_grown hg2 z1 (by omega) (Go.Joins.cell_of_block O1.out 3)
  have c4 : u2.cell? ⟨w.heap.size, 4, none⟩ = some (.bool l.w) := cell_grown hg2 z1 (by omega) (Go.Joins.cell_of_block O1.out 4)
  have c5 : u2.cell? ⟨w.heap.size, 5, none⟩ = some (.bool l.u) := cell_grown hg2 z1 (by omega) (Go.Joins.cell_of_block O1.out 5)
  have c6 : u2.cell? ⟨w.heap.size, 6, none⟩ = some (.bool l.x) := cell_grown hg2 z1 (by omega) (Go.Joins.cell_of_block O1.out 6)
  have c7 : u2.cell? ⟨w.heap.size, 7, none⟩ = some (.bool l.g) := cell_grown hg2 z1 (by omega) (Go.Joins.cell_of_block O1.out 7)
  have c8 : u2.cell? ⟨w.heap.size, 8, none⟩ = some (.bool l.d) := cell_grown hg2 z1 (by omega) (Go.Joins.cell_of_block O1.out 8)
  have TD : Hid (IsTlb u2.drew b (dropT T l.beats 16)) := hT2
  have GD : Hid (w.grownBy u2.drew (some b)) := ⟨G2.out.os, G2.out.tape, G2.out.output, G2.out.size, G2.out.block⟩
  clear hT2 hg2 D FO z1 O1 B1
  go_wp2_with fail
  refine wp_region_noPanic ?_
  refine wp_region_held_drew (S := fun c => c.cell? ⟨w.heap.size, 0, none⟩ = some (.bool l.v) ∧ c.cell? ⟨w.heap.size, 1, none⟩ = some (.int .i64 l.t) ∧ c.cell? ⟨w.heap.size, 2, none⟩ = some (.int .i64 l.p) ∧ c.cell? ⟨w.heap.size, 3, none⟩ = some (.int .i64 l.f) ∧ c.cell? ⟨w.heap.size, 4, none⟩ = some (.bool l.w) ∧ c.cell? ⟨w.heap.size, 5, none⟩ = some (.bool l.u) ∧ c.cell? ⟨w.heap.size, 6, none⟩ = some (.bool l.x) ∧ c.cell? ⟨w.heap.size, 7, none⟩ = some (.bool l.g) ∧ c.cell? ⟨w.heap.size, 8, none⟩ = some (.bool l.d) ∧ Hid (c.there b (s * 18 + y * 9) 9)) (by kernel_rfl) ?_ (fun hHeld => ?_)
  · exact ⟨c0, c1, c2, c3, c4, c5, c6, c7, c8, TH.out⟩
  clear c0 c1 c2 c3 c4 c5 c6 c7 c8
  refine wpAnyH_take (i := 0) (oi := ⟨some 21, _, _, _, _, none⟩) (v := ?_) rfl (by kernel_rfl) (by kernel_rfl) (by kernel_rfl) (fun _ _ _ h => h) (Or.inl ⟨by rfl, ?_⟩) (by assumption) ?_
  rotate_left
  · intro w hSw; (try dsimp only at hSw); go_simp; (try with_reducible rfl)
  try simp only [Act.put, List.setIfInBounds_toArray, List.set_cons_zero, List.set_cons_succ]
  refine wpAnyH_take (i := 1) (oi := ⟨some 22, _, _, _, _, none⟩) (v := ?_) rfl (by kernel_rfl) (by kernel_rfl) (by kernel_rfl) (fun _ _ _ h => h) (Or.inl ⟨by rfl, ?_⟩) (by assumption) ?_
  rotate_left
  · intro w hSw; (try dsimp only at hSw); go_simp; (try with_reducible rfl)
  try simp only [Act.put, List.setIfInBounds_toArray, List.set_cons_zero, List.set_cons_succ]
  refine wpAnyH_take (i := 2) (oi := ⟨some 23, _, _, _, _, none⟩) (v := ?_) rfl (by kernel_rfl) (by kernel_rfl) (by kernel_rfl) (fun _ _ _ h => h) (Or.inl ⟨by rfl, ?_⟩) (by assumption) ?_
  rotate_left
  · intro w hSw; (try dsimp only at hSw); go_simp; (try with_reducible rfl)
  try simp only [Act.put, List.setIfInBounds_toArray, List.set_cons_zero, List.set_cons_succ]
  refine wpAnyH_take (i := 3) (oi := ⟨some 24, _, _, _, _, none⟩) (v := ?_) rfl (by kernel_rfl) (by kernel_rfl) (by kernel_rfl) (fun _ _ _ h => h) (Or.inl ⟨by rfl, ?_⟩) (by assumption) ?_
  rotate_left
  · intro w hSw; (try dsimp only at hSw); go_simp; (try with_reducible rfl)
  try simp only [Act.put, List.setIfInBounds_toArray, List.set_cons_zero, List.set_cons_succ]
  refine wpAnyH_take (i := 4) (oi := ⟨some 25, _, _, _, _, none⟩) (v := ?_) rfl (by kernel_rfl) (by kernel_rfl) (by kernel_rfl) (fun _ _ _ h => h) (Or.inl ⟨by rfl, ?_⟩) (by assumption) ?_
  rotate_left
  · intro w hSw; (try dsimp only at hSw); go_simp; (try with_reducible rfl)
  try simp only [Act.put, List.setIfInBounds_toArray, List.set_cons_zero, List.set_cons_succ]
  refine wpAnyH_take (i := 5) (oi := ⟨some 26, _, _, _, _, none⟩) (v := ?_) rfl (by kernel_rfl) (by kernel_rfl) (by kernel_rfl) (fun _ _ _ h => h) (Or.inl ⟨by rfl, ?_⟩) (by assumption) ?_
  rotate_left
  · intro w hSw; (try dsimp only at hSw); go_simp; (try with_reducible rfl)
  try simp only [Act.put, List.setIfInBounds_toArray, List.set_cons_zero, List.set_cons_succ]
  refine wpAnyH_take (i := 6) (oi := ⟨some 27, _, _, _, _, none⟩) (v := ?_) rfl (by kernel_rfl) (by kernel_rfl) (by kernel_rfl) (fun _ _ _ h => h) (Or.inl ⟨by rfl, ?_⟩) (by assumption) ?_
  rotate_left
  · intro w hSw; (try dsimp only at hSw); go_simp; (try with_reducible rfl)
  try simp only [Act.put, List.setIfInBounds_toArray, List.set_cons_zero, List.set_cons_succ]
  refine wpAnyH_take (i := 7) (oi := ⟨some 28, _, _, _, _, none⟩) (v := ?_) rfl (by kernel_rfl) (by kernel_rfl) (by kernel_rfl) (fun _ _ _ h => h) (Or.inl ⟨by rfl, ?_⟩) (by assumption) ?_
  rotate_left
  · intro w hSw; (try dsimp only at hSw); go_simp; (try with_reducible rfl)
  try simp only [Act.put, List.setIfInBounds_toArray, List.set_cons_zero, List.set_cons_succ]
  refine wpAnyH_take (i := 8) (oi := ⟨some 29, _, _, _, _, none⟩) (v := ?_) rfl (by kernel_rfl) (by kernel_rfl) (by kernel_rfl) (fun _ _ _ h => h) (Or.inl ⟨by rfl, ?_⟩) (by assumption) ?_
  rotate_left
  · intro w hSw; (try dsimp only at hSw); go_simp; (try with_reducible rfl)
  try simp only [Act.put, List.setIfInBounds_toArray, List.set_cons_zero, List.set_cons_succ]
  refine wpAnyH_take (i := 9) (oi := ⟨some 30, _, _, _, _, none⟩) (v := ?_) rfl (by kernel_rfl) (by kernel_rfl) (by kernel_rfl) (fun _ _ _ h => h) (Or.inl ⟨by rfl, ?_⟩) (by assumption) ?_
  rotate_left
  · intro w hSw; (try dsimp only at hSw); go_simp; (try with_reducible rfl)
  try simp only [Act.put, List.setIfInBounds_toArray, List.set_cons_zero, List.set_cons_succ]
  obtain ⟨s0, s1, s2, s3, s4, s5, s6, s7, s8, th⟩ := hHeld
  clear T2 G2 TH
  generalize u2.drew = U at th TD GD s0 s1 s2 s3 s4 s5 s6 s7 s8 ⊢
  refine wpAnyH_ready (rs := [10]) (by kernel_rfl) (by simp) ?_
  refine AllReadyH.cons (o := ⟨none, .store 54 (.tmp 30) (.tmp 26), _, _, _, none⟩) rfl (fun K hK => ?_) AllReadyH.nil
  refine wanted_mp rfl ?_
  refine wp_store_mid _ _ _ rfl b (s * 18 + y * 9) #[.bool l.v, .int .i64 l.t, .int .i64 l.p, .int .i64 l.f, .bool l.w, .bool l.u, .bool l.x, .bool l.g, .bool l.d] rfl rfl th.out line_info (ln_one l) ?_
  have V : IsTlb (U.setCells b (s * 18 + y * 9) [.bool l.v, .int .i64 l.t, .int .i64 l.p, .int .i64 l.f, .bool l.w, .bool l.u, .bool l.x, .bool l.g, .bool l.d]) b (fillT T y l) := by
    have := (TD.out.put (2 * s + y) (by omega) l).congr (T' := fillT T y l) (fun i _ => by
      unfold fillT
      rw [HS.out, Int.toNat_natCast, Int.toNat_natCast])
    rw [show (2 * s + y) * 9 = s * 18 + y * 9 by omega] at this
    exact this
  have VG : w.grownBy (U.setCells b (s * 18 + y * 9) [.bool l.v, .int .i64 l.t, .int .i64 l.p, .int .i64 l.f, .bool l.w, .bool l.u, .bool l.x, .bool l.g, .bool l.d]) (some b) := grown_trans GD.out (grown_setCells b _ _ _)
  refine hK.out _ _ ?_ (fun hHeld1 => ?_)
  · exact ⟨(cell_setCells_ne (by exact (show w.heap.size ≠ b by omega))).trans s0, (cell_setCells_ne (by exact (show w.heap.size ≠ b by omega))).trans s1, (cell_setCells_ne (by exact (show w.heap.size ≠ b by omega))).trans s2, (cell_setCells_ne (by exact (show w.heap.size ≠ b by omega))).trans s3, (cell_setCells_ne (by exact (show w.heap.size ≠ b by omega))).trans s4, (cell_setCells_ne (by exact (show w.heap.size ≠ b by omega))).trans s5, (cell_setCells_ne (by exact (show w.heap.size ≠ b by omega))).trans s6, (cell_setCells_ne (by exact (show w.heap.size ≠ b by omega))).trans s7, (cell_setCells_ne (by exact (show w.heap.size ≠ b by omega))).trans s8, World.there_setCells th.out _ _ _⟩
  have HV : Hid _ := V
  have HG : Hid _ := VG
  clear hK K hHeld1 V VG TD GD th s0 s1 s2 s3 s4 s5 s6 s7 s8
  try simp only [Act.put, List.setIfInBounds_toArray, List.set_cons_zero, List.set_cons_succ]
  refine wpAnyH_done (by kernel_rfl) ?_ _
  refine NoPanic.normal ?_
  try simp only [List.toList_toArray]
  generalize U.setCells b (s * 18 + y * 9) [.bool l.v, .int .i64 l.t, .int .i64 l.p, .int .i64 l.f, .bool l.w, .bool l.u, .bool l.x, .bool l.g, .bool l.d] = X at HV HG ⊢
  go_wp2_with fail
  go_ret
  exact ⟨rfl, HV.out, HG.out⟩
end Go.Proofs.Ytihedjlcjkbjfaa
