/- Boot maps: Less. -/
import Derived.Test.YtpfcpmhpekidkaaO7
namespace Go.Proofs.Ytpfcpmhpekidkaa.Bm
open Go.ChangeShapes Go.WideShapes Go.ChangeAt Go.RowKit Go.Maps
set_option linter.unusedSimpArgs false
set_option linter.unusedVariables false
set_option maxRecDepth 8000

def lenS : Value → Nat
  | .slice _ n _ => n
  | _ => 0
theorem less_next {M C : List (Int × Int)} {k : Nat} (h : k < M.length) : lessL (M.drop k) C = restL M[k].1 M[k].2 (dropL M[k].1 C) ++ lessL (M.drop (k + 1)) (dropL M[k].1 C) := by
  rw [List.drop_eq_getElem_cons h, lessL]
theorem drop_len (f : Int) : ∀ C : List (Int × Int), (dropL f C).length ≤ C.length
  | [] => by simp [dropL]
  | c :: C => by unfold dropL; have := drop_len f C; split <;> simp; omega
theorem lessL_len : ∀ (L C : List (Int × Int)), (lessL L C).length ≤ L.length * (C.length + 1)
  | [], C => by simp [lessL]
  | r :: L, C => by
    unfold lessL
    have h1 := rest_len (dropL r.1 C) r.1 r.2
    have h2 := lessL_len L (dropL r.1 C)
    have h3 := drop_len r.1 C
    have h4 : L.length * ((dropL r.1 C).length + 1) ≤ L.length * (C.length + 1) := Nat.mul_le_mul_left _ (by omega)
    rw [List.length_append, List.length_cons, Nat.add_mul]
    omega
theorem ll_tail {w : World} {lo g o n c : Nat} {x : Int × Int} {C : List (Int × Int)} (hn : C.length = n) (hc : n + 1 ≤ c) (l0 : lo ≤ g) (lg : g < w.heap.size) (h : ∀ i (hi : i < (x :: C).length), ∀ j, j < 2 → w.cell? ⟨g, o + i * 2 + j, none⟩ = (eR (x :: C)[i])[j]?) :
    RL w lo (.slice (if c = 1 then some ⟨g, o, none⟩ else some ⟨g, o + 2, none⟩) n (c - 1)) C := by
  by_cases e : c = 1
  · rw [if_pos e]
    have : C = [] := List.eq_nil_of_length_eq_zero (by omega)
    subst this
    exact Or.inr ⟨g, o, c - 1, by rw [← hn], by simp, l0, lg, fun i hi => absurd hi (Nat.not_lt_zero _)⟩
  · rw [if_neg e]
    refine Or.inr ⟨g, o + 2, c - 1, by rw [hn], by omega, l0, lg, fun i hi j hj => ?_⟩
    have := h (i + 1) (by simp; omega) j hj
    rw [show o + (i + 1) * 2 + j = o + 2 + i * 2 + j by omega] at this
    exact this
set_option maxHeartbeats 4000000 in
theorem less_call (lo1 lo2 : Nat) (v a : Value) (L B : List (Int × Int)) (hL : L.length ≤ 10000) (hB : B.length ≤ 10000) (hLB : L.length * (B.length + 1) ≤ 100000) (w : World) (H1 : RL w lo1 v L) (H2 : RL w lo2 a B) :
    Calls Try.prog 9 #[v, a] w fun e w' => ∃ v' M, e = .returned v' ∧ OR w' w.heap.size v' M ∧ Can M ∧ (∀ n, Has M n ↔ Has L n ∧ ¬ Has B n) ∧ M.length ≤ L.length * (B.length + 1) ∧ Below w.heap.size w w' := by
  have C1 : Hid _ := merge_any lo2 a B (by omega) w H2
  have C2 : Hid (∀ W : World, Below w.heap.size w W → _) := fun W hb => merge_any lo1 v L (by omega) W (H1.below hb)
  have HLB : Hid (L.length * (B.length + 1) ≤ 100000) := hLB
  clear H1 H2 hLB
  go_enter Try.func9, Try.ntmps9
  go_wp2_with fail
  refine Calls.mono C1.out ?_
  rintro e w1 ⟨v1, M1, rfl, O1, k1, h1, n1, B1⟩
  have S1 : Hid (OR w1 w.heap.size v1 M1 ∧ Can M1 ∧ (∀ n, Has M1 n ↔ Has B n) ∧ M1.length ≤ B.length ∧ Below w.heap.size w w1) := ⟨O1, k1, h1, n1, B1⟩
  clear O1 k1 h1 n1 B1 C1
  go_wp2_with fail
  refine Calls.mono (C2.out w1 S1.out.2.2.2.2) ?_
  rintro e w2 ⟨v2, M2, rfl, O2, k2, h2, n2, B2⟩
  have S2 : Hid (Can M2 ∧ (∀ n, Has M2 n ↔ Has L n) ∧ M2.length ≤ L.length ∧ Below w.heap.size w w2) := ⟨k2, h2, n2, below_then S1.out.2.2.2.2 B2⟩
  have RC : Hid (RL w2 0 v1 M1) := ((ol_ll eR_len S1.out.1).low (Nat.zero_le _)).below B2
  obtain ⟨p2, c2, hv2, hc2, _, rd⟩ := (ol_ll eR_len O2).form
  have RD : Hid (∀ i (hi : i < M2.length), ∃ g o, p2 = some ⟨g, o, none⟩ ∧ w1.heap.size ≤ g ∧ g < w2.heap.size ∧ ∀ j, j < 2 → w2.cell? ⟨g, o + i * 2 + j, none⟩ = (eR M2[i])[j]?) := rd
  obtain ⟨n, hn⟩ : ∃ n, M2.length = n := ⟨_, rfl⟩
  have HN : Hid (M2.length = n) := hn
  have n9 : n ≤ 10000 := by rw [← hn]; omega
  have HM : Hid (n * (M1.length + 1) ≤ L.length * (B.length + 1)) := by
    show _ ≤ _
    have := S1.out.2.2.2.1
    exact Nat.mul_le_mul (by omega) (by omega)
  have HM1 : Hid (M1.length ≤ 10000) := by have := S1.out.2.2.2.1; show _ ≤ _; omega
  rw [hn] at hv2
  subst hv2
  clear rd O2 k2 h2 n2 B2 C2 hc2 hn hL hB
  obtain ⟨m1, hm1⟩ : ∃ m1, M1.length = m1 := ⟨_, rfl⟩
  have HMM : Hid (M1.length = m1) := hm1
  rw [hm1] at HM HM1
  clear hm1
  go_wp2_with fail
  go_loopw [5, 6, 14] (fun v c i W => ∃ (k : Nat) (A C : List (Int × Int)), k ≤ n ∧ i = .int .i64 k ∧ Hid (OR W w2.heap.size v A ∧ Below w2.heap.size w2 W) ∧ Hid (RL w2 0 c C) ∧ Hid (A ++ lessL (M2.drop k) C = lessL M2 M1) ∧ Hid (A.length ≤ k * (m1 + 1)) ∧ Hid (C.length ≤ m1)) (fun _ _ i _ => n - (Go.RowKit.intOf i).toNat)
  case atStart => exact ⟨0, [], M1, by omega, rfl, ⟨ol_none _ _ _ _ _, Below.refl _ _⟩, RC, rfl, Nat.zero_le _, Nat.le_of_eq HMM.out⟩
  case round =>
    clear RC
    obtain ⟨k, A, C, hk, rfl, J, RC, EQ, AL, CL⟩ := hrel
    by_cases ck : k < n
    rotate_left
    · obtain rfl : k = n := by omega
      have d1 : decide ((k : Int) < (k : Int)) = false := by simp
      go_wp2_with fail
      go_ret
      have e : A = lessL M2 M1 := by have := EQ.out; rw [← HN.out, List.drop_length, lessL, List.append_nil] at this; exact this
      have X := less_any M2 M1 S2.out.1 S1.out.2.1
      rw [← e] at X
      refine ⟨u5, A, rfl, row_weak J.out.1 S2.out.2.2.2.size, X.1, fun x => ?_, Nat.le_trans AL.out HM.out, below_then S2.out.2.2.2 J.out.2⟩
      rw [X.2.2 x, S2.out.2.1 x, S1.out.2.2.1 x]
    have d1 : decide ((k : Int) < (n : Int)) = true := by simp; omega
    have d0 : decide ((k : Int) < 0) = false := by simp
    have kS : k < M2.length := by rw [HN.out]; exact ck
    obtain ⟨g, og, rfl, _, lg, rc⟩ := RD.out k kS
    have y0 : wr.cell? ⟨g, og + k * 2, none⟩ = some (.int .i64 M2[k].1) := (World.cell?_of_block (J.out.2.block g lg)).trans (rc 0 (by omega))
    have y1 : wr.cell? ⟨g, og + k * 2 + 1, none⟩ = some (.int .i64 M2[k].2) := (World.cell?_of_block (J.out.2.block g lg)).trans (rc 1 (by omega))
    have EQ2 : Hid (A ++ (restL M2[k].1 M2[k].2 (dropL M2[k].1 C) ++ lessL (M2.drop (k + 1)) (dropL M2[k].1 C)) = lessL M2 M1) := by have := EQ.out; rw [less_next kS] at this; exact this
    have CD := drop_len M2[k].1 C
    clear EQ rc lg
    generalize M2[k].1 = a at y0 EQ2 CD
    generalize M2[k].2 = b at y1 EQ2
    have JI : Hid (RI w2 wr.heap.size a b A u5 (wr.alloc (.cells #[.int .i64 a, .int .i64 b] 30))) := ⟨row_below J.out.1 (Go.Joins.below_alloc1 _ _), below_new J.out.2 _, Blk.made wr [.int .i64 a, .int .i64 b] 30, (fun e => by have := (row_lt J.out.1 _ e).2; omega), J.out.2.size⟩
    have EQ := EQ2
    have DL : Hid ((dropL a C).length ≤ m1) := by have := CL.out; show _ ≤ _; omega
    have AK : Hid (A.length ≤ 100000) := by
      have h1 := AL.out
      have h2 : k * (m1 + 1) ≤ n * (m1 + 1) := Nat.mul_le_mul_right _ hk
      have h3 := HM.out
      have h4 := HLB.out
      show _ ≤ _
      omega
    have DE0 : Hid (dropL a C = dropL a C) := rfl
    generalize hD : dropL a C = D at EQ DL
    rw [hD] at DE0
    have DE1 : Hid (dropL a C = D) := hD
    clear J EQ2 CD hD DE0
    go_wp2_with fail
    clear y0 y1
    generalize wr.alloc (.cells #[.int .i64 a, .int .i64 b] 30) = wx at JI ⊢
    generalize wr.heap.size = rb at JI ⊢
    go_loopw [6] (fun c W => ∃ C2 : List (Int × Int), Hid (RL w2 0 c C2) ∧ Hid (dropL a C2 = D) ∧ Hid (RI w2 rb a b A u5 W)) (fun c _ => lenS c)
    case atStart => exact ⟨C, RC, DE1, JI⟩
    case round =>
      clear RC JI DE1 CL
      obtain ⟨C2, RC, DE, JI⟩ := hrel
      obtain ⟨pc, cc, hv, hcc, hpn, rdc⟩ := RC.out.form
      obtain ⟨nc, hnc⟩ : ∃ nc, C2.length = nc := ⟨_, rfl⟩
      rw [hnc] at hv hcc
      subst hv
      cases C2 with
      | nil =>
        obtain rfl : nc = 0 := by rw [← hnc]; rfl
        obtain rfl : D = [] := by rw [← DE.out]; rfl
        have CLL := DL
        have zz : decide ((0 : Int) < 0) = false := by decide
        clear rdc hpn hnc hcc DE DL
        go_wp2_with fail
        go_quiet (fail)
        have JQ : Hid (RI w2 rb a b A u5 (wr.drewN nq)) := JI.out.below (below_drewN (Below.refl _ _))
        have z2 : (wr.drewN nq).cell? ⟨rb, 0, none⟩ = some (.int .i64 a) := JQ.out.box.cell 0
        have z3 : (wr.drewN nq).cell? ⟨rb, 1, none⟩ = some (.int .i64 b) := JQ.out.box.cell 1
        clear JI
        generalize wr.drewN nq = wq at JQ z2 z3 ⊢
        have ARC : Hid (∀ W : World, RI w2 rb a b A u5 W → _) := fun W h => append_rest w2 0 u5 (.slice pc 0 cc) A [] a b (by have := AK.out; omega) (by have := CLL.out; have := HM1.out; omega) W RC.out h.own h.bel
        go_wp2_with fail
        refine Calls.mono (ARC.out _ JQ.out) ?_
        rintro e w3 ⟨v', rfl, O3, B3⟩
        have N1 : Hid (OR w3 w2.heap.size v' (A ++ restL a b []) ∧ Below w2.heap.size w2 w3) := ⟨O3, B3⟩
        clear O3 B3 ARC JQ z2 z3
        go_wp2_with fail
        go_roundw
        case rel => exact ⟨k + 1, A ++ restL a b [], [], by omega, by go_num, N1, RC, by have := EQ.out; show _ = _; rw [List.append_assoc]; exact this, by have := AL.out; have := rest_len [] a b; have := CLL.out; show _ ≤ _; rw [List.length_append, Nat.add_mul, Nat.one_mul]; omega, CLL⟩
        case measure => simp [Go.RowKit.intOf]; omega
      | cons x cs =>
        obtain ⟨gc, oc, rfl, l0, lgc, _⟩ := rdc 0 (by simp)
        have rc : ∀ i (hi : i < (x :: cs).length), ∀ j, j < 2 → w2.cell? ⟨gc, oc + i * 2 + j, none⟩ = (eR (x :: cs)[i])[j]? := fun i hi j hj => by
          obtain ⟨g', o', e', _, _, h⟩ := rdc i hi
          cases e'
          exact h j hj
        obtain ⟨nd, hnd⟩ : ∃ nd, cs.length = nd := ⟨_, rfl⟩
        obtain rfl : nc = nd + 1 := by rw [← hnc, ← hnd]; rfl
        have TL : Hid (RL w2 0 (.slice (if cc = 1 then some ⟨gc, oc, none⟩ else some ⟨gc, oc + 2, none⟩) nd (cc - 1)) cs) := ll_tail hnd hcc (Nat.zero_le _) lgc rc
        have q1 : wr.cell? ⟨gc, oc + 1, none⟩ = some (.int .i64 x.2) := (World.cell?_of_block (JI.out.bel.block gc lgc)).trans (rc 0 (by simp) 1 (by omega))
        have q0 : wr.cell? ⟨rb, 0, none⟩ = some (.int .i64 a) := JI.out.box.cell 0
        have i0 : decide ((0 : Int) < (nd : Int) + 1) = true := decide_eq_true (by omega)
        have nd9 : nd + 1 ≤ cc := hcc
        clear rdc hpn rc l0 lgc hcc
        by_cases cx : x.2 ≤ a
        · have e1 : decide (x.2 ≤ a) = true := by simp [cx]
          have DE2 : Hid (dropL a cs = D) := by have := DE.out; rw [dropL, if_pos cx] at this; exact this
          generalize x.2 = x2 at *
          have c1 : decide ((1 : Int) ≤ (nd : Int) + 1) = true := decide_eq_true (by omega)
          have c2' : ¬ ((nd : Int) + 1 < 1) := by omega
          clear hnd hnc RC DE
          go_wp2_with fail
          go_quiet (fail)
          have JQ : Hid (RI w2 rb a b A u5 (wr.drewN nq)) := JI.out.below (below_drewN (Below.refl _ _))
          have z2 : (wr.drewN nq).cell? ⟨rb, 0, none⟩ = some (.int .i64 a) := JQ.out.box.cell 0
          have z3 : (wr.drewN nq).cell? ⟨rb, 1, none⟩ = some (.int .i64 b) := JQ.out.box.cell 1
          clear JI q1 q0
          generalize wr.drewN nq = wq at JQ z2 z3 ⊢
          go_wp2_with fail
          go_roundw
          case rel => exact ⟨cs, TL, DE2, JQ⟩
          case measure => simp [lenS]
        · have e1 : decide (x.2 ≤ a) = false := by simp; omega
          have DE2 : x :: cs = D := by have := DE.out; rw [dropL, if_neg cx] at this; exact this
          subst DE2
          have CLL := DL
          clear DL DE hnc TL
          generalize hx2 : x.2 = x2 at q1 e1 cx
          go_wp2_with fail
          go_quiet (fail)
          have JQ : Hid (RI w2 rb a b A u5 (wr.drewN nq)) := JI.out.below (below_drewN (Below.refl _ _))
          have z2 : (wr.drewN nq).cell? ⟨rb, 0, none⟩ = some (.int .i64 a) := JQ.out.box.cell 0
          have z3 : (wr.drewN nq).cell? ⟨rb, 1, none⟩ = some (.int .i64 b) := JQ.out.box.cell 1
          clear JI q1 q0
          generalize wr.drewN nq = wq at JQ z2 z3 ⊢
          have ARC : Hid (∀ W : World, RI w2 rb a b A u5 W → _) := fun W h => append_rest w2 0 u5 (.slice (some ⟨gc, oc, none⟩) (nd + 1) cc) A (x :: cs) a b (by have := AK.out; omega) (by have := CLL.out; have := HM1.out; omega) W RC.out h.own h.bel
          go_wp2_with fail
          refine Calls.mono (ARC.out _ JQ.out) ?_
          rintro e w3 ⟨v', rfl, O3, B3⟩
          have N1 : Hid (OR w3 w2.heap.size v' (A ++ restL a b (x :: cs)) ∧ Below w2.heap.size w2 w3) := ⟨O3, B3⟩
          clear O3 B3 ARC JQ z2 z3
          go_wp2_with fail
          go_roundw
          case rel => exact ⟨k + 1, A ++ restL a b (x :: cs), (x :: cs), by omega, by go_num, N1, RC, by have := EQ.out; show _ = _; rw [List.append_assoc]; exact this, by have := AL.out; have := rest_len (x :: cs) a b; have := CLL.out; show _ ≤ _; rw [List.length_append, Nat.add_mul, Nat.one_mul]; omega, CLL⟩
          case measure => simp [Go.RowKit.intOf]; omega
end Go.Proofs.Ytpfcpmhpekidkaa.Bm
