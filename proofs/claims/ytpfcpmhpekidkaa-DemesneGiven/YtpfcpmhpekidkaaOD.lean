/- Boot maps: the laws' small calls. -/
import Derived.Test.YtpfcpmhpekidkaaOC
namespace Go.Proofs.Ytpfcpmhpekidkaa.Bm
open Go.ChangeShapes Go.WideShapes Go.ChangeAt Go.RowKit Go.Maps
set_option linter.unusedSimpArgs false
set_option linter.unusedVariables false
set_option maxRecDepth 8000

theorem in_any (f t x : Int) (z : Bool) (hz : z = true ↔ f ≤ x ∧ x < t) (w : World) : Calls Try.prog 35 #[.agg #[.int .i64 f, .int .i64 t], .int .i64 x] w fun e w' => e = .returned (.bool z) ∧ Below w.heap.size w w' := by
  by_cases c1 : f ≤ x
  · have d1 : decide (f ≤ x) = true := decide_eq_true c1
    by_cases c2 : x < t
    · have d2 : decide (x < t) = true := decide_eq_true c2
      obtain rfl := hz.2 ⟨c1, c2⟩
      clear hz
      go_enter Try.func35, Try.ntmps35
      go_wp2_with fail
      try go_quiet (fail)
      try go_wp2_with fail
      go_ret
      exact ⟨rfl, Go.Joins.below_alloc1 _ _⟩
    · have d2 : decide (x < t) = false := decide_eq_false c2
      have zf : z = false := by
        cases z with
        | false => rfl
        | true => exact absurd (hz.1 rfl).2 c2
      subst zf
      clear hz
      go_enter Try.func35, Try.ntmps35
      go_wp2_with fail
      try go_quiet (fail)
      try go_wp2_with fail
      go_ret
      exact ⟨rfl, Go.Joins.below_alloc1 _ _⟩
  · have d1 : decide (f ≤ x) = false := decide_eq_false c1
    have zf : z = false := by
      cases z with
      | false => rfl
      | true => exact absurd (hz.1 rfl).1 c1
    subst zf
    clear hz
    go_enter Try.func35, Try.ntmps35
    go_wp2_with fail
    try go_quiet (fail)
    try go_wp2_with fail
    go_ret
    exact ⟨rfl, Go.Joins.below_alloc1 _ _⟩
set_option maxHeartbeats 1000000 in
theorem some_any (lo : Nat) (v : Value) (L : List (Int × Int)) (x : Int) (z : Bool) (hz : z = true ↔ Has L x) (hn : L.length ≤ 100000) (w : World) (H : RL w lo v L) :
    Calls Try.prog 16 #[v, .int .i64 x] w fun e w' => e = .returned (.bool z) ∧ Below w.heap.size w w' := by
  obtain ⟨p, c, hv, _, _, rd⟩ := H.form
  have RD : Hid (∀ i (hi : i < L.length), ∃ g o, p = some ⟨g, o, none⟩ ∧ lo ≤ g ∧ g < w.heap.size ∧ ∀ j, j < 2 → w.cell? ⟨g, o + i * 2 + j, none⟩ = (eR L[i])[j]?) := rd
  obtain ⟨n, en⟩ : ∃ n, L.length = n := ⟨_, rfl⟩
  have HN : Hid (L.length = n) := en
  rw [en] at hv hn
  subst hv
  have HZ : Hid (z = true ↔ Has L x) := hz
  clear H hz rd en
  go_enter Try.func16, Try.ntmps16
  go_wp2_with fail
  go_loopw [6, 9] (fun _ i wr => ∃ j : Nat, j ≤ n ∧ i = .int .i64 j ∧ Hid (Below w.heap.size w wr) ∧ Hid (∀ m (hm : m < L.length), m < j → ¬ (L[m].1 ≤ x ∧ x < L[m].2))) (fun _ i _ => n - (Go.RowKit.intOf i).toNat)
  case atStart => exact ⟨0, by omega, rfl, Below.refl _ _, fun m hm h => absurd h (Nat.not_lt_zero _)⟩
  case round =>
    obtain ⟨j, hj, rfl, hb, hF⟩ := hrel
    by_cases cj : j < n
    rotate_left
    · obtain rfl : j = n := by omega
      have d1 : decide ((j : Int) < (j : Int)) = false := by simp
      have zf : z = false := by
        cases z with
        | false => rfl
        | true =>
          obtain ⟨r, hr, h1⟩ := HZ.out.1 rfl
          obtain ⟨m, hm, rfl⟩ := List.getElem_of_mem hr
          exact absurd h1 (hF.out m hm (by rw [← HN.out]; exact hm))
      subst zf
      go_wp2_with fail
      go_ret
      exact ⟨rfl, hb.out⟩
    have d1 : decide ((j : Int) < (n : Int)) = true := decide_eq_true (by omega)
    have d0 : decide ((j : Int) < 0) = false := by simp
    have jL : j < L.length := by rw [HN.out]; exact cj
    obtain ⟨g, og, rfl, _, lg, rc⟩ := RD.out j jL
    have y0 : wr.cell? ⟨g, og + j * 2, none⟩ = some (.int .i64 L[j].1) := (World.cell?_of_block (hb.out.block g lg)).trans (rc 0 (by omega))
    have y1 : wr.cell? ⟨g, og + j * 2 + 1, none⟩ = some (.int .i64 L[j].2) := (World.cell?_of_block (hb.out.block g lg)).trans (rc 1 (by omega))
    have hb2 : Hid (Below w.heap.size w (wr.alloc (.cells #[.int .i64 L[j].1, .int .i64 L[j].2] 30))) := below_new hb.out _
    by_cases ci : L[j].1 ≤ x ∧ x < L[j].2
    · have zt : z = true := HZ.out.2 ⟨L[j], List.getElem_mem jL, ci⟩
      subst zt
      have IC : Hid (∀ W : World, _) := fun W => in_any L[j].1 L[j].2 x true ⟨fun _ => ci, fun _ => rfl⟩ W
      clear ci hF rc lg
      generalize L[j].1 = a at *
      generalize L[j].2 = b at *
      go_wp2_with fail
      refine Calls.mono (IC.out _) ?_
      rintro e u ⟨rfl, hu⟩
      have HU : Hid (Below w.heap.size w u) := below_then hb2.out hu
      clear hu
      go_wp2_with fail
      go_ret
      exact ⟨rfl, HU.out⟩
    · have IC : Hid (∀ W : World, _) := fun W => in_any L[j].1 L[j].2 x false ⟨fun h => (by cases h), fun h => absurd h ci⟩ W
      have NX : Hid (∀ m (hm : m < L.length), m < j + 1 → ¬ (L[m].1 ≤ x ∧ x < L[m].2)) := fun m hm h => by
        by_cases e : m = j
        · subst e; exact ci
        · exact hF.out m hm (by omega)
      clear ci hF rc lg
      generalize L[j].1 = a at y0 y1 hb2 IC ⊢
      generalize L[j].2 = b at y0 y1 hb2 IC ⊢
      go_wp2_with fail
      refine Calls.mono (IC.out _) ?_
      rintro e u ⟨rfl, hu⟩
      have HU : Hid (Below w.heap.size w u) := below_then hb2.out hu
      clear hu
      go_wp2_with fail
      go_roundw
      case rel => exact ⟨j + 1, by omega, by go_num, HU, NX⟩
      case measure => simp [Go.RowKit.intOf]; omega
theorem eqI (d : Nat) (a b : Int) (W : World) : (Op.equalIn (d + 1) 3 (.int .i64 a) (.int .i64 b)).run Try.prog W = .ok (a == b) W := run_equalIn_int W d _ .i64 .i64 a b Try.underlying3
theorem eqRg (d : Nat) (a b a' b' : Int) (W : World) : (Op.equalIn (d + 2) 30 (.agg #[.int .i64 a, .int .i64 b]) (.agg #[.int .i64 a', .int .i64 b'])).run Try.prog W = .ok (a == a' && b == b') W := by
  rw [run_equalIn_struct W (d + 1) 30 _ _ (by kernel_rfl) (by kernel_rfl)]
  have p0 : ∀ (x y : Value) (W : World), (part 3 #[x, y] 0).run Try.prog W = .ok x W := fun x y W => by kernel_rfl
  have p1 : ∀ (x y : Value) (W : World), (part 3 #[x, y] 1).run Try.prog W = .ok y W := fun x y W => by kernel_rfl
  simp only [Program.fieldsOf, Try.underlying30]
  simp [Op.eqFields, p0, p1, eqI]
  cases h1 : (a == a') <;> cases h2 : (b == b') <;> simp_all
theorem neRg (a b a' b' : Int) (W : World) : (binOp .neq 30 (.agg #[.int .i64 a, .int .i64 b]) (.agg #[.int .i64 a', .int .i64 b'])).run Try.prog W = .ok (.bool (!(a == a' && b == b'))) W := by
  have := eqRg 9998 a b a' b' W
  simp only [binOp, Op.equal, Sem.run_bind]
  rw [show Op.maxDepth = 9998 + 2 from rfl, this]; rfl
set_option maxHeartbeats 1000000 in
theorem same_any (lo1 lo2 : Nat) (v u : Value) (L M : List (Int × Int)) (z : Bool) (hz : z = true ↔ L = M) (hn : L.length ≤ 100000) (hm : M.length ≤ 100000) (w : World) (H : RL w lo1 v L) (K : RL w lo2 u M) :
    Calls Try.prog 8 #[v, u] w fun e w' => e = .returned (.bool z) ∧ Below w.heap.size w w' := by
  obtain ⟨p, c, hv, _, _, rd⟩ := H.form
  obtain ⟨p', c', hv', _, _, rd'⟩ := K.form
  have RD : Hid (∀ i (hi : i < L.length), ∃ g o, p = some ⟨g, o, none⟩ ∧ lo1 ≤ g ∧ g < w.heap.size ∧ ∀ j, j < 2 → w.cell? ⟨g, o + i * 2 + j, none⟩ = (eR L[i])[j]?) := rd
  have RD' : Hid (∀ i (hi : i < M.length), ∃ g o, p' = some ⟨g, o, none⟩ ∧ lo2 ≤ g ∧ g < w.heap.size ∧ ∀ j, j < 2 → w.cell? ⟨g, o + i * 2 + j, none⟩ = (eR M[i])[j]?) := rd'
  obtain ⟨n, en⟩ : ∃ n, L.length = n := ⟨_, rfl⟩
  obtain ⟨m, em⟩ : ∃ m, M.length = m := ⟨_, rfl⟩
  have HN : Hid (L.length = n) := en
  have HM : Hid (M.length = m) := em
  rw [en] at hv hn
  rw [em] at hv' hm
  subst hv
  subst hv'
  have HZ : Hid (z = true ↔ L = M) := hz
  clear H K hz rd rd' en em
  have hne := fun a b a' b' W => neRg a b a' b' W
  by_cases cl : n = m
  rotate_left
  · have d1 : ((n : Int) != (m : Int)) = true := by simp; omega
    have d2 : ¬ ((n : Int) = (m : Int)) := by omega
    have zf : z = false := by
      cases z with
      | false => rfl
      | true => exact absurd (by rw [← HN.out, ← HM.out, HZ.out.1 rfl]) cl
    subst zf
    go_enter Try.func8, Try.ntmps8
    go_wp2_with fail
    go_ret
    exact ⟨rfl, Below.refl _ _⟩
  subst cl
  have d1 : ((n : Int) != (n : Int)) = false := by simp
  go_enter Try.func8, Try.ntmps8
  go_wp2_with fail
  go_loopw [13] (fun i wr => ∃ j : Nat, j ≤ n ∧ i = .int .i64 j ∧ Hid (Below w.heap.size w wr) ∧ Hid (∀ m (hm : m < L.length) (hm' : m < M.length), m < j → L[m] = M[m])) (fun i _ => n - (Go.RowKit.intOf i).toNat)
  case atStart => exact ⟨0, by omega, rfl, Below.refl _ _, fun m hm _ h => absurd h (Nat.not_lt_zero _)⟩
  case round =>
    obtain ⟨j, hj, rfl, hb, hF⟩ := hrel
    by_cases cj : j < n
    rotate_left
    · obtain rfl : j = n := by omega
      have dj : decide ((j : Int) < (j : Int)) = false := by simp
      have zt : z = true := HZ.out.2 (List.ext_getElem (by rw [HN.out, HM.out]) (fun i h1 h2 => hF.out i h1 h2 (by rw [← HN.out]; exact h1)))
      subst zt
      go_wp2_with fail
      go_ret
      exact ⟨rfl, hb.out⟩
    have dj : decide ((j : Int) < (n : Int)) = true := decide_eq_true (by omega)
    have d0 : decide ((j : Int) < 0) = false := by simp
    have jL : j < L.length := by rw [HN.out]; exact cj
    have jM : j < M.length := by rw [HM.out]; exact cj
    obtain ⟨g, og, rfl, _, lg, rc⟩ := RD.out j jL
    obtain ⟨g', og', rfl, _, lg', rc'⟩ := RD'.out j jM
    have y0 : wr.cell? ⟨g, og + j * 2, none⟩ = some (.int .i64 L[j].1) := (World.cell?_of_block (hb.out.block g lg)).trans (rc 0 (by omega))
    have y1 : wr.cell? ⟨g, og + j * 2 + 1, none⟩ = some (.int .i64 L[j].2) := (World.cell?_of_block (hb.out.block g lg)).trans (rc 1 (by omega))
    have z0 : wr.cell? ⟨g', og' + j * 2, none⟩ = some (.int .i64 M[j].1) := (World.cell?_of_block (hb.out.block g' lg')).trans (rc' 0 (by omega))
    have z1 : wr.cell? ⟨g', og' + j * 2 + 1, none⟩ = some (.int .i64 M[j].2) := (World.cell?_of_block (hb.out.block g' lg')).trans (rc' 1 (by omega))
    by_cases ce : L[j] = M[j]
    · have NX : Hid (∀ m (hm : m < L.length) (hm' : m < M.length), m < j + 1 → L[m] = M[m]) := fun m hm hm' h => by
        by_cases e : m = j
        · subst e; exact ce
        · exact hF.out m hm hm' (by omega)
      rw [← ce] at z0 z1
      have e1 : (!(L[j].1 == L[j].1 && L[j].2 == L[j].2)) = false := by simp
      clear rc rc' lg lg' ce hF
      generalize L[j].1 = a at *
      generalize L[j].2 = b at *
      go_wp2_with fail
      go_quiet (fail)
      go_wp2_with fail
      go_roundw
      case rel => exact ⟨j + 1, by omega, by go_num, below_drewN hb.out, NX⟩
      case measure => simp [Go.RowKit.intOf]; omega
    · have zf : z = false := by
        cases z with
        | false => rfl
        | true =>
          have e := HZ.out.1 rfl
          subst e
          exact absurd rfl ce
      subst zf
      have e1 : (!(L[j].1 == M[j].1 && L[j].2 == M[j].2)) = true := by
        simp only [Bool.not_eq_true', Bool.and_eq_false_iff, beq_eq_false_iff_ne]
        by_cases q : L[j].1 = M[j].1
        · exact Or.inr (fun q2 => ce (Prod.ext q q2))
        · exact Or.inl q
      clear rc rc' lg lg' ce hF
      generalize L[j].1 = a at *
      generalize L[j].2 = b at *
      generalize M[j].1 = a' at *
      generalize M[j].2 = b' at *
      go_wp2_with fail
      go_quiet (fail)
      go_wp2_with fail
      go_ret
      exact ⟨rfl, below_drewN hb.out⟩
end Go.Proofs.Ytpfcpmhpekidkaa.Bm
