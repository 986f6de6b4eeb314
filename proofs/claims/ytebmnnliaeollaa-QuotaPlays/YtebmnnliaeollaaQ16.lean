/- Containers: the document's Child. -/
import Derived.Test.YtebmnnliaeollaaQ15
namespace Go.Proofs.Ytebmnnliaeollaa
open Go.ChangeShapes Go.WideShapes Go.ChangeAt Go.RowKit Go.Maps
set_option linter.unusedSimpArgs false
set_option linter.unusedVariables false

/-- the least number that is free, by so many looks -/
def numB (B : List Bx) : Nat → Int → Int
  | 0, z => z
  | k + 1, z => numB B k (if (findB B z).2 = true then z + 1 else z)
def ltN (z : Int) (b : Bx) : Bool := decide (b.num < z)
def gtN (z : Int) (b : Bx) : Bool := decide (z < b.num)
def insB (B : List Bx) (z : Int) (x : Bx) : List Bx := B.filter (ltN z) ++ [x] ++ B.filter (gtN z)
theorem news_cells1 (u : World) (C : Array Value) (t : TypeId) : ∀ j x, C.toList[j]? = some x → (u.alloc (.cells C t)).cell? ((⟨u.heap.size, 0, none⟩ : Addr).add j) = some x := by
  intro j x hx
  rw [Addr.add_mid, Nat.zero_add]
  exact (Go.Joins.cell_of_block (own1 u (.cells C t)) j).trans (by simpa using hx)
set_option maxHeartbeats 2000000 in
theorem childB_may (base : Nat) (p : Option Addr) (c : Nat) (B : List Bx) (hB : B.length ≤ 64) (hs : FitB B) (i q : Int) (w : World) (h : IsBox w base p B) (he : mayB B i q ≠ 0) :
    Calls Try.prog 15 #[.slice p B.length c, .int .i64 i, .int .i64 q] w fun e w' => e = .returned (.tuple #[.slice p B.length c, .int .i64 0, .int .i64 (mayB B i q)]) ∧ Below w.heap.size w w' := by
  have FI : Hid (∀ (i : Int) (W : World), IsBox W base p B → Calls Try.prog 22 #[.slice p B.length c, .int .i64 i] W fun e w' => e = .returned (.tuple #[(findB B i).1.val, .bool (findB B i).2]) ∧ Below W.heap.size W w') := fun i W h => findB_any base p c B hB i W h
  have RO : Hid (∀ W : World, IsBox W base p B → Calls Try.prog 9 #[.slice p B.length c, .int .i64 i] W fun e w' => e = .returned (.int .i64 (roomB B i)) ∧ Below W.heap.size W w') := fun W h => roomB_any base p c B hB hs i W h
  have HB : Hid (IsBox w base p B) := h
  have F1 : Hid (∀ W : World, IsBox W base p B → Calls Try.prog 22 #[.slice p B.length c, .int .i64 i] W fun e w' => e = .returned (.tuple #[(findB B i).1.val, .bool (findB B i).2]) ∧ Below W.heap.size W w') := FI.out i
  unfold mayB at he ⊢
  generalize roomB B i = ro at RO he ⊢
  generalize findB B i = ff at F1 he ⊢
  obtain ⟨⟨fn, fp, fq, fu⟩, ok⟩ := ff
  simp only at F1 he ⊢
  clear h hs
  cases ok
  · rw [if_pos rfl]
    clear he
    go_enter Try.func15, Try.ntmps15
    go_wp2_with fail
    refine (F1.out _ HB.out).mono ?_
    rintro e u1 ⟨rfl, hb1⟩
    have B1 : Hid (Below w.heap.size w u1) := hb1
    clear hb1
    go_wp2_with fail
    go_returns
    exact ⟨rfl, below_new B1.out _⟩
  rw [if_neg (by simp)] at he ⊢
  by_cases hn : q < 0
  · have e1 : decide (q < 0) = true := by simp [hn]
    rw [if_pos hn]
    clear he
    go_enter Try.func15, Try.ntmps15
    go_wp2_with fail
    refine (F1.out _ HB.out).mono ?_
    rintro e u1 ⟨rfl, hb1⟩
    have B1 : Hid (Below w.heap.size w u1) := hb1
    clear hb1
    go_wp2_with fail
    go_returns
    exact ⟨rfl, below_new B1.out _⟩
  have e1 : decide (q < 0) = false := by simp; omega
  rw [if_neg hn] at he ⊢
  by_cases hr : ro < q
  · have e2 : decide (ro < q) = true := by simp [hr]
    rw [if_pos hr]
    clear he
    go_enter Try.func15, Try.ntmps15
    go_wp2_with fail
    refine (F1.out _ HB.out).mono ?_
    rintro e u1 ⟨rfl, hb1⟩
    have B1 : Hid (Below w.heap.size w u1) := hb1
    clear hb1
    go_wp2_with fail
    refine (RO.out _ (HB.out.below (below_new B1.out _))).mono ?_
    rintro e u2 ⟨rfl, hb2⟩
    have B2 : Hid (Below w.heap.size w u2) := below_then (below_new B1.out _) hb2
    clear hb2 B1
    go_wp2_with fail
    go_returns
    exact ⟨rfl, B2.out⟩
  · rw [if_neg hr] at he; exact absurd rfl he
set_option maxHeartbeats 2000000 in
theorem childB_big (base : Nat) (p : Option Addr) (c : Nat) (B : List Bx) (hB : B.length ≤ 64) (hs : FitB B) (i q : Int) (w : World) (h : IsBox w base p B) (he : mayB B i q = 0) (hl : 63 < B.length) :
    Calls Try.prog 15 #[.slice p B.length c, .int .i64 i, .int .i64 q] w fun e w' => e = .returned (.tuple #[.slice p B.length c, .int .i64 0, .int .i64 4]) ∧ Below w.heap.size w w' := by
  have e3 : decide (63 < (B.length : Int)) = true := by simp; omega
  have FI : Hid (∀ (i : Int) (W : World), IsBox W base p B → Calls Try.prog 22 #[.slice p B.length c, .int .i64 i] W fun e w' => e = .returned (.tuple #[(findB B i).1.val, .bool (findB B i).2]) ∧ Below W.heap.size W w') := fun i W h => findB_any base p c B hB i W h
  have RO : Hid (∀ W : World, IsBox W base p B → Calls Try.prog 9 #[.slice p B.length c, .int .i64 i] W fun e w' => e = .returned (.int .i64 (roomB B i)) ∧ Below W.heap.size W w') := fun W h => roomB_any base p c B hB hs i W h
  have HB : Hid (IsBox w base p B) := h
  have F1 : Hid (∀ W : World, IsBox W base p B → Calls Try.prog 22 #[.slice p B.length c, .int .i64 i] W fun e w' => e = .returned (.tuple #[(findB B i).1.val, .bool (findB B i).2]) ∧ Below W.heap.size W w') := FI.out i
  unfold mayB at he
  generalize roomB B i = ro at RO he
  generalize findB B i = ff at F1 he
  obtain ⟨⟨fn, fp, fq, fu⟩, ok⟩ := ff
  simp only at F1 he
  clear h hs
  cases ok
  · rw [if_pos rfl] at he; omega
  rw [if_neg (by simp)] at he
  by_cases hn : q < 0
  · rw [if_pos hn] at he; omega
  rw [if_neg hn] at he
  by_cases hr : ro < q
  · rw [if_pos hr] at he; omega
  have e1 : decide (q < 0) = false := by simp; omega
  have e2 : decide (ro < q) = false := by simp; omega
  clear he hn hr
  go_enter Try.func15, Try.ntmps15
  go_wp2_with fail
  refine (F1.out _ HB.out).mono ?_
  rintro e u1 ⟨rfl, hb1⟩
  have B1 : Hid (Below w.heap.size w u1) := hb1
  clear hb1
  go_wp2_with fail
  refine (RO.out _ (HB.out.below (below_new B1.out _))).mono ?_
  rintro e u2 ⟨rfl, hb2⟩
  have B2 : Hid (Below w.heap.size w u2) := below_then (below_new B1.out _) hb2
  clear hb2 B1
  go_wp2_with fail
  go_returns
  exact ⟨rfl, B2.out⟩
set_option maxHeartbeats 4000000 in
theorem childB_ok (base : Nat) (p : Option Addr) (c : Nat) (B : List Bx) (hB : B.length ≤ 63) (hs : FitB B) (i q : Int) (w : World) (h : IsBox w base p B) (he : mayB B i q = 0) (N : Int) (hN : numB B (B.length + 1) 0 = N) :
    Calls Try.prog 15 #[.slice p B.length c, .int .i64 i, .int .i64 q] w fun e w' => ∃ v, e = .returned (.tuple #[v, .int .i64 N, .int .i64 0]) ∧ OwnB w' w.heap.size v (insB B N ⟨N, i, q, 0⟩) ∧ Below w.heap.size w w' := by
  have hB : B.length ≤ 64 := by omega
  have h63 : decide (63 < (B.length : Int)) = false := by simp; omega
  obtain ⟨i0, hi, hz0, hz1, hz2⟩ := info5 box_info5
  have FI : Hid (∀ (i : Int) (W : World), IsBox W base p B → Calls Try.prog 22 #[.slice p B.length c, .int .i64 i] W fun e w' => e = .returned (.tuple #[(findB B i).1.val, .bool (findB B i).2]) ∧ Below W.heap.size W w') := fun i W h => findB_any base p c B hB i W h
  have RO : Hid (∀ W : World, IsBox W base p B → Calls Try.prog 9 #[.slice p B.length c, .int .i64 i] W fun e w' => e = .returned (.int .i64 (roomB B i)) ∧ Below W.heap.size W w') := fun W h => roomB_any base p c B hB hs i W h
  have HB : Hid (IsBox w base p B) := h
  have F1 : Hid (∀ W : World, IsBox W base p B → Calls Try.prog 22 #[.slice p B.length c, .int .i64 i] W fun e w' => e = .returned (.tuple #[(findB B i).1.val, .bool (findB B i).2]) ∧ Below W.heap.size W w') := FI.out i
  have HN : Hid (numB B (B.length + 1) 0 = N) := hN
  unfold mayB at he
  generalize roomB B i = ro at RO he
  generalize findB B i = ff at F1 he
  obtain ⟨⟨fn, fp, fq, fu⟩, ok⟩ := ff
  simp only at F1 he
  clear h hs hN
  cases ok
  · rw [if_pos rfl] at he; omega
  rw [if_neg (by simp)] at he
  by_cases hn : q < 0
  · rw [if_pos hn] at he; omega
  rw [if_neg hn] at he
  by_cases hr : ro < q
  · rw [if_pos hr] at he; omega
  have e1 : decide (q < 0) = false := by simp; omega
  have e2 : decide (ro < q) = false := by simp; omega
  clear he hn hr
  go_enter Try.func15, Try.ntmps15
  go_wp2_with fail
  refine (F1.out _ HB.out).mono ?_
  rintro e u1 ⟨rfl, hb1⟩
  have B1 : Hid (Below w.heap.size w u1) := hb1
  clear hb1
  go_wp2_with fail
  refine (RO.out _ (HB.out.below (below_new B1.out _))).mono ?_
  rintro e u2 ⟨rfl, hb2⟩
  have B2 : Hid (Below w.heap.size w u2) := below_then (below_new B1.out _) hb2
  clear hb2 B1
  go_wp2_with fail
  clear F1 RO
  go_loopw [11, 12] (fun y x W => ∃ (j : Nat) (z : Int), j ≤ B.length + 1 ∧ y = .int .i64 z ∧ x = .int .i64 j ∧ 0 ≤ z ∧ z ≤ (j : Int) ∧ Hid (numB B (B.length + 1 - j) z = N) ∧ Hid (Below w.heap.size w W)) (fun _ x _ => B.length + 1 - (intOf x).toNat)
  case atStart => exact ⟨0, 0, by omega, rfl, rfl, by omega, by omega, HN, B2⟩
  case round =>
    obtain ⟨j, z, hj, rfl, rfl, z0, z1, hz, Bl⟩ := hrel
    by_cases hlj : j ≤ B.length
    · have hd : decide ((j : Int) ≤ (B.length : Int)) = true := by simp; omega
      have NX : Hid (numB B (B.length + 1 - (j + 1)) (if (findB B z).2 = true then z + 1 else z) = N) := by
        have := hz.out
        rw [show B.length + 1 - j = (B.length + 1 - (j + 1)) + 1 by omega] at this
        exact this
      have F2 : Hid (∀ W : World, IsBox W base p B → Calls Try.prog 22 #[.slice p B.length c, .int .i64 z] W fun e w' => e = .returned (.tuple #[(findB B z).1.val, .bool (findB B z).2]) ∧ Below W.heap.size W w') := FI.out z
      generalize findB B z = ff at F2 NX
      obtain ⟨⟨fn, fp, fq, fu⟩, ok⟩ := ff
      simp only at F2 NX
      cases ok
      all_goals
        go_wp2_with fail
        refine (F2.out _ (HB.out.below Bl.out)).mono ?_
        rintro e u3 ⟨rfl, hb3⟩
        have B3 : Hid (Below w.heap.size w u3) := below_then Bl.out hb3
        clear hb3
        go_wp2_with fail
        go_roundw
        case rel => first | exact ⟨j + 1, z, by omega, rfl, by go_num, by omega, by omega, (by show numB _ _ _ = N; simpa using NX.out), below_new B3.out _⟩ | exact ⟨j + 1, z + 1, by omega, by go_num, by go_num, by omega, by omega, (by show numB _ _ _ = N; simpa using NX.out), below_new B3.out _⟩
        case measure => simp [intOf]; omega
    · have hd : decide ((j : Int) ≤ (B.length : Int)) = false := by simp; omega
      have ez : z = N := by
        have := hz.out
        rw [show j = B.length + 1 by omega, Nat.sub_self] at this; exact this
      subst ez
      clear hz HN FI
      have Bo : Hid (Below w.heap.size w wr) := Bl.out
      clear Bl
      go_wp2_with fail
      go_loopw [15, 60] (fun v x W => ∃ m : Nat, m ≤ B.length ∧ x = .int .i64 m ∧ Hid (OwnB W w.heap.size v ((B.take m).filter (ltN z))) ∧ Hid (Below w.heap.size w W)) (fun _ x _ => B.length - (intOf x).toNat)
      case atStart => exact ⟨0, by omega, rfl, OwnB.weak (own_start wr) Bo.out.size, below_new Bo.out _⟩
      case round =>
        obtain ⟨m, hm, rfl, O, Bl⟩ := hrel
        by_cases hlm : m < B.length
        · have hd : decide ((m : Int) < (B.length : Int)) = true := by simp; omega
          obtain ⟨g, rfl, g1, g2, gc⟩ := (HB.out.below Bl.out) m hlm
          have NX : Hid ((B.take (m + 1)).filter (ltN z) = (B.take m).filter (ltN z) ++ (if ltN z (B.getD m Bx.zero) = true then [B.getD m Bx.zero] else [])) := filB_take (ltN z) B m hlm
          have AL : Hid (((B.take m).filter (ltN z)).length ≤ 200) := by
            show _ ≤ _
            have := filB_len (ltN z) B m
            omega
          generalize B.getD m Bx.zero = bx at gc NX
          obtain ⟨bn, bp, bq, bu⟩ := bx
          have y0 : wr.cell? ⟨g, m * 4, none⟩ = some (.int .i64 bn) := gc 0 _ rfl
          have y1 : wr.cell? ⟨g, m * 4 + 1, none⟩ = some (.int .i64 bp) := gc 1 _ rfl
          have y2 : wr.cell? ⟨g, m * 4 + 2, none⟩ = some (.int .i64 bq) := gc 2 _ rfl
          have y3 : wr.cell? ⟨g, m * 4 + 3, none⟩ = some (.int .i64 bu) := gc 3 _ rfl
          clear gc
          by_cases cn : bn < z
          · have e4 : decide (bn < z) = true := by simp [cn]
            have N2 : Hid ((B.take (m + 1)).filter (ltN z) = ((B.take m).filter (ltN z)) ++ [⟨bn, bp, bq, bu⟩]) := by
              show _ = _
              rw [NX.out, if_pos (by unfold ltN; simp [cn])]
            clear cn NX
            generalize (B.take m).filter (ltN z) = L at O AL N2
            have OW : Hid (((wr.alloc (.cells #[.int .i64 bn, .int .i64 bp, .int .i64 bq, .int .i64 bu] 29)).alloc (.cells #[.int .i64 bn, .int .i64 bp, .int .i64 bq, .int .i64 bu] 29)).ownsRow w.heap.size 29 4 u15 (L).length ((L).flatMap Bx.enc)) := own_keep O.out (Go.Joins.below_alloc2 _ _ _)
            have NW : Hid (∀ j x, ([.int .i64 bn, .int .i64 bp, .int .i64 bq, .int .i64 bu] : List Value)[j]? = some x → ((wr.alloc (.cells #[.int .i64 bn, .int .i64 bp, .int .i64 bq, .int .i64 bu] 29)).alloc (.cells #[.int .i64 bn, .int .i64 bp, .int .i64 bq, .int .i64 bu] 29)).cell? ((⟨wr.heap.size + 1, 0, none⟩ : Addr).add j) = some x) := news_cells wr _ #[.int .i64 bn, .int .i64 bp, .int .i64 bq, .int .i64 bu] 29
            have ON : Hid (∀ x ∈ ([.int .i64 bn, .int .i64 bp, .int .i64 bq, .int .i64 bu] : List Value), x.oneCell' = true) := by show ∀ x ∈ ([.int .i64 bn, .int .i64 bp, .int .i64 bq, .int .i64 bu] : List Value), x.oneCell' = true; simp [Value.oneCell']
            have HZ : Hid (w.heap.size ≤ ((wr.alloc (.cells #[.int .i64 bn, .int .i64 bp, .int .i64 bq, .int .i64 bu] 29)).alloc (.cells #[.int .i64 bn, .int .i64 bp, .int .i64 bq, .int .i64 bu] 29)).heap.size) := by show _ ≤ _; rw [World.size_alloc, World.size_alloc]; have := Bl.out.size; omega
            have MX : Hid ((L).length + 1 ≤ maxLen) := by show _ ≤ _; unfold maxLen; have := AL.out; omega
            have BY : Hid (((L).length + 1) * 32 ≤ 140737488355328) := by show _ ≤ _; have := AL.out; omega
            go_wp2_with (at_builtin; refine wpList_append_own _ rfl _ _ 30 rfl w.heap.size 29 i0 zbox 4 32 Try.underlying30 hi hz0 hz1 hz2 rfl (by decide) u15 ((L).length) ((L).flatMap Bx.enc) rfl OW.out ⟨wr.heap.size + 1, 0, none⟩ 1 1 ([.int .i64 bn, .int .i64 bp, .int .i64 bq, .int .i64 bu] : List Value) rfl rfl NW.out ON.out MX.out BY.out HZ.out ?_; intro v1 a0 hown hg hnil; have O1 : Hid (a0.ownsRow w.heap.size 29 4 v1 ((L).length + 1) (((L).flatMap Bx.enc) ++ [.int .i64 bn, .int .i64 bp, .int .i64 bq, .int .i64 bu])) := hown; have B1 : Hid (Below w.heap.size w a0) := below_grown (Bl.out.trans (Go.Joins.below_le (Go.Joins.below_alloc2 wr _ _) Bl.out.size)) OW.out hg; clear hown hg hnil OW NW ON HZ MX BY)
            go_wp2_with fail
            go_roundw
            case rel => exact ⟨m + 1, by omega, by go_num, (by show OwnB _ _ _ _; rw [N2.out]; exact OwnB.next O1.out), B1⟩
            case measure => simp [intOf]; omega
          · have e4 : decide (bn < z) = false := by simp; omega
            have N2 : Hid ((B.take (m + 1)).filter (ltN z) = (B.take m).filter (ltN z)) := by
              show _ = _
              rw [NX.out, if_neg (by unfold ltN; simp; omega), List.append_nil]
            clear cn NX
            go_wp2_with fail
            go_roundw
            case rel => exact ⟨m + 1, by omega, by go_num, (by show OwnB _ _ _ _; rw [N2.out]; exact O.out.below (Go.Joins.below_alloc1 _ _)), below_new Bl.out _⟩
            case measure => simp [intOf]; omega
        · obtain rfl : m = B.length := by omega
          have OF : Hid (OwnB wr w.heap.size u15 (B.filter (ltN z))) := by
            have := O.out
            rw [List.take_length] at this; exact this
          clear O
          have AL : Hid ((B.filter (ltN z)).length ≤ 64) := Nat.le_trans (List.length_filter_le _ _) hB
          have PL : Hid ((B.filter (ltN z) ++ [(⟨z, i, q, 0⟩ : Bx)]).length ≤ 65) := by show _ ≤ _; have := AL.out; rw [List.length_append]; simp; omega
          have O : Hid (OwnB wr w.heap.size u15 (B.filter (ltN z))) := OF.out
          clear OF
          have OW : Hid ((wr.alloc (.cells #[.int .i64 z, .int .i64 i, .int .i64 q, .int .i64 0] 29)).ownsRow w.heap.size 29 4 u15 ((B.filter (ltN z))).length (((B.filter (ltN z))).flatMap Bx.enc)) := own_keep O.out (Go.Joins.below_alloc1 _ _)
          have NW : Hid (∀ j x, ([.int .i64 z, .int .i64 i, .int .i64 q, .int .i64 0] : List Value)[j]? = some x → (wr.alloc (.cells #[.int .i64 z, .int .i64 i, .int .i64 q, .int .i64 0] 29)).cell? ((⟨wr.heap.size, 0, none⟩ : Addr).add j) = some x) := news_cells1 wr #[.int .i64 z, .int .i64 i, .int .i64 q, .int .i64 0] 29
          have ON : Hid (∀ x ∈ ([.int .i64 z, .int .i64 i, .int .i64 q, .int .i64 0] : List Value), x.oneCell' = true) := by show ∀ x ∈ ([.int .i64 z, .int .i64 i, .int .i64 q, .int .i64 0] : List Value), x.oneCell' = true; simp [Value.oneCell']
          have HZ : Hid (w.heap.size ≤ (wr.alloc (.cells #[.int .i64 z, .int .i64 i, .int .i64 q, .int .i64 0] 29)).heap.size) := by show _ ≤ _; rw [World.size_alloc]; have := Bl.out.size; omega
          have MX : Hid (((B.filter (ltN z))).length + 1 ≤ maxLen) := by show _ ≤ _; unfold maxLen; have := AL.out; omega
          have BY : Hid ((((B.filter (ltN z))).length + 1) * 32 ≤ 140737488355328) := by show _ ≤ _; have := AL.out; omega
          go_wp2_with (at_builtin; refine wpList_append_own _ rfl _ _ 30 rfl w.heap.size 29 i0 zbox 4 32 Try.underlying30 hi hz0 hz1 hz2 rfl (by decide) u15 (((B.filter (ltN z))).length) (((B.filter (ltN z))).flatMap Bx.enc) rfl OW.out ⟨wr.heap.size, 0, none⟩ 1 1 ([.int .i64 z, .int .i64 i, .int .i64 q, .int .i64 0] : List Value) rfl rfl NW.out ON.out MX.out BY.out HZ.out ?_; intro v1 a0 hown hg hnil; have O1 : Hid (a0.ownsRow w.heap.size 29 4 v1 (((B.filter (ltN z))).length + 1) ((((B.filter (ltN z))).flatMap Bx.enc) ++ [.int .i64 z, .int .i64 i, .int .i64 q, .int .i64 0])) := hown; have B1 : Hid (Below w.heap.size w a0) := below_grown (Bl.out.trans (Go.Joins.below_le (Go.Joins.below_alloc1 wr _) Bl.out.size)) OW.out hg; clear hown hg hnil OW NW ON HZ MX BY)
          have O2 : Hid (OwnB a0 w.heap.size v1 (B.filter (ltN z) ++ [(⟨z, i, q, 0⟩ : Bx)])) := OwnB.next O1.out
          clear O1 O Bl
          go_wp2_with fail
          go_loopw [15, 82] (fun v x W => ∃ m : Nat, m ≤ B.length ∧ x = .int .i64 m ∧ Hid (OwnB W w.heap.size v ((B.filter (ltN z) ++ [(⟨z, i, q, 0⟩ : Bx)]) ++ (B.take m).filter (gtN z))) ∧ Hid (Below w.heap.size w W)) (fun _ x _ => B.length - (intOf x).toNat)
          case atStart => exact ⟨0, by omega, rfl, (by show OwnB _ _ _ _; rw [List.take_zero, List.filter_nil, List.append_nil]; exact O2.out), B1⟩
          case round =>
            obtain ⟨m, hm, rfl, O, Bl⟩ := hrel
            by_cases hlm : m < B.length
            · have hd : decide ((m : Int) < (B.length : Int)) = true := by simp; omega
              obtain ⟨g, rfl, g1, g2, gc⟩ := (HB.out.below Bl.out) m hlm
              have NX : Hid ((B.take (m + 1)).filter (gtN z) = (B.take m).filter (gtN z) ++ (if gtN z (B.getD m Bx.zero) = true then [B.getD m Bx.zero] else [])) := filB_take (gtN z) B m hlm
              have AL : Hid (((B.filter (ltN z) ++ [(⟨z, i, q, 0⟩ : Bx)]) ++ (B.take m).filter (gtN z)).length ≤ 200) := by
                show _ ≤ _
                have := filB_len (gtN z) B m
                have l2 := PL.out; rw [List.length_append]; omega
              generalize B.getD m Bx.zero = bx at gc NX
              obtain ⟨bn, bp, bq, bu⟩ := bx
              have y0 : wr.cell? ⟨g, m * 4, none⟩ = some (.int .i64 bn) := gc 0 _ rfl
              have y1 : wr.cell? ⟨g, m * 4 + 1, none⟩ = some (.int .i64 bp) := gc 1 _ rfl
              have y2 : wr.cell? ⟨g, m * 4 + 2, none⟩ = some (.int .i64 bq) := gc 2 _ rfl
              have y3 : wr.cell? ⟨g, m * 4 + 3, none⟩ = some (.int .i64 bu) := gc 3 _ rfl
              clear gc
              by_cases cn : z < bn
              · have e4 : decide (z < bn) = true := by simp [cn]
                have N2 : Hid ((B.filter (ltN z) ++ [(⟨z, i, q, 0⟩ : Bx)]) ++ (B.take (m + 1)).filter (gtN z) = ((B.filter (ltN z) ++ [(⟨z, i, q, 0⟩ : Bx)]) ++ (B.take m).filter (gtN z)) ++ [⟨bn, bp, bq, bu⟩]) := by
                  show _ = _
                  rw [NX.out, if_pos (by unfold gtN; simp [cn])]; simp only [List.append_assoc]
                clear cn NX
                generalize (B.filter (ltN z) ++ [(⟨z, i, q, 0⟩ : Bx)]) ++ (B.take m).filter (gtN z) = L at O AL N2
                have OW : Hid (((wr.alloc (.cells #[.int .i64 bn, .int .i64 bp, .int .i64 bq, .int .i64 bu] 29)).alloc (.cells #[.int .i64 bn, .int .i64 bp, .int .i64 bq, .int .i64 bu] 29)).ownsRow w.heap.size 29 4 u15 (L).length ((L).flatMap Bx.enc)) := own_keep O.out (Go.Joins.below_alloc2 _ _ _)
                have NW : Hid (∀ j x, ([.int .i64 bn, .int .i64 bp, .int .i64 bq, .int .i64 bu] : List Value)[j]? = some x → ((wr.alloc (.cells #[.int .i64 bn, .int .i64 bp, .int .i64 bq, .int .i64 bu] 29)).alloc (.cells #[.int .i64 bn, .int .i64 bp, .int .i64 bq, .int .i64 bu] 29)).cell? ((⟨wr.heap.size + 1, 0, none⟩ : Addr).add j) = some x) := news_cells wr _ #[.int .i64 bn, .int .i64 bp, .int .i64 bq, .int .i64 bu] 29
                have ON : Hid (∀ x ∈ ([.int .i64 bn, .int .i64 bp, .int .i64 bq, .int .i64 bu] : List Value), x.oneCell' = true) := by show ∀ x ∈ ([.int .i64 bn, .int .i64 bp, .int .i64 bq, .int .i64 bu] : List Value), x.oneCell' = true; simp [Value.oneCell']
                have HZ : Hid (w.heap.size ≤ ((wr.alloc (.cells #[.int .i64 bn, .int .i64 bp, .int .i64 bq, .int .i64 bu] 29)).alloc (.cells #[.int .i64 bn, .int .i64 bp, .int .i64 bq, .int .i64 bu] 29)).heap.size) := by show _ ≤ _; rw [World.size_alloc, World.size_alloc]; have := Bl.out.size; omega
                have MX : Hid ((L).length + 1 ≤ maxLen) := by show _ ≤ _; unfold maxLen; have := AL.out; omega
                have BY : Hid (((L).length + 1) * 32 ≤ 140737488355328) := by show _ ≤ _; have := AL.out; omega
                go_wp2_with (at_builtin; refine wpList_append_own _ rfl _ _ 30 rfl w.heap.size 29 i0 zbox 4 32 Try.underlying30 hi hz0 hz1 hz2 rfl (by decide) u15 ((L).length) ((L).flatMap Bx.enc) rfl OW.out ⟨wr.heap.size + 1, 0, none⟩ 1 1 ([.int .i64 bn, .int .i64 bp, .int .i64 bq, .int .i64 bu] : List Value) rfl rfl NW.out ON.out MX.out BY.out HZ.out ?_; intro v1 a0 hown hg hnil; have O1 : Hid (a0.ownsRow w.heap.size 29 4 v1 ((L).length + 1) (((L).flatMap Bx.enc) ++ [.int .i64 bn, .int .i64 bp, .int .i64 bq, .int .i64 bu])) := hown; have B1 : Hid (Below w.heap.size w a0) := below_grown (Bl.out.trans (Go.Joins.below_le (Go.Joins.below_alloc2 wr _ _) Bl.out.size)) OW.out hg; clear hown hg hnil OW NW ON HZ MX BY)
                go_wp2_with fail
                go_roundw
                case rel => exact ⟨m + 1, by omega, by go_num, (by show OwnB _ _ _ _; rw [N2.out]; exact OwnB.next O1.out), B1⟩
                case measure => simp [intOf]; omega
              · have e4 : decide (z < bn) = false := by simp; omega
                have N2 : Hid ((B.take (m + 1)).filter (gtN z) = (B.take m).filter (gtN z)) := by
                  show _ = _
                  rw [NX.out, if_neg (by unfold gtN; simp; omega), List.append_nil]
                clear cn NX
                go_wp2_with fail
                go_roundw
                case rel => exact ⟨m + 1, by omega, by go_num, (by show OwnB _ _ _ _; rw [N2.out]; exact O.out.below (Go.Joins.below_alloc1 _ _)), below_new Bl.out _⟩
                case measure => simp [intOf]; omega
            · obtain rfl : m = B.length := by omega
              have OF : Hid (OwnB wr w.heap.size u15 (insB B z ⟨z, i, q, 0⟩)) := by
                have := O.out
                rw [List.take_length] at this; exact this
              clear O
              go_wp2_with fail
              go_returns
              exact ⟨_, rfl, OF.out, Bl.out⟩
end Go.Proofs.Ytebmnnliaeollaa
