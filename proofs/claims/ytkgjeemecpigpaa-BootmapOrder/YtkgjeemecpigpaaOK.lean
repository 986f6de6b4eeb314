/- Boot maps: the document's Ends. -/
import Derived.Test.YtkgjeemecpigpaaOJ
namespace Go.Proofs.Ytkgjeemecpigpaa.Bm
open Go.ChangeShapes Go.WideShapes Go.ChangeAt Go.RowKit Go.Maps
set_option linter.unusedSimpArgs false
set_option linter.unusedVariables false
set_option maxRecDepth 8000

theorem stI_eq (n : Int) (s : List Int × Bool) : stI n s n = (s.1 ++ [n], true) := by unfold stI; simp
theorem stI_on {n x : Int} (s : List Int) (h : ¬ x = n) : stI n (s, true) x = (s ++ [x], true) := by unfold stI; simp [h]
theorem stI_in {n x : Int} (s : List Int) (h : ¬ x = n) (k : n < x) : stI n (s, false) x = (s ++ [n] ++ [x], true) := by unfold stI; simp [h, k]
theorem stI_no {n x : Int} (s : List Int) (h : ¬ x = n) (k : ¬ n < x) : stI n (s, false) x = (s ++ [x], false) := by unfold stI; simp [h, k]
/-- what was inserted when i lists and k ranges of the next are through -/
def doneE (L A : List (Int × Int)) (i k : Nat) : List Int := if i = 0 then endsR (L.take k) else if i = 1 then endsR L ++ endsR (A.take k) else endsR L ++ endsR A
theorem endsR_next {L : List (Int × Int)} {k : Nat} (h : k < L.length) : endsR (L.take (k + 1)) = endsR (L.take k) ++ [L[k].1, L[k].2] := by
  unfold endsR; rw [take_next L k h, List.flatMap_append]; simp
set_option maxHeartbeats 8000000 in
/-- one number is put among those that there are: the loop's part of Ends -/
theorem ends_any (lo1 lo2 : Nat) (v u : Value) (L A : List (Int × Int)) (hL : L.length ≤ 100) (hA : A.length ≤ 100) (w : World) (H : RL w lo1 v L) (K : RL w lo2 u A) :
    Calls Try.prog 29 #[v, u] w fun e w' => ∃ v', e = .returned v' ∧ IL w' w.heap.size v' (endsV L A) ∧ Below w.heap.size w w' := by
  have TWO : ∀ i, i < 2 → ∃ (p : Option Addr) (c : Nat) (M : List (Int × Int)), (if i = 0 then v else u) = .slice p M.length c ∧ M.length ≤ 100 ∧ (∀ k, doneE L A i k = (if i = 0 then [] else endsR L) ++ endsR (M.take k)) ∧ doneE L A (i + 1) 0 = (if i = 0 then [] else endsR L) ++ endsR M ∧ ∀ q (hq : q < M.length), ∃ g o, p = some ⟨g, o, none⟩ ∧ g < w.heap.size ∧ ∀ j, j < 2 → w.cell? ⟨g, o + q * 2 + j, none⟩ = (eR M[q])[j]? := fun i hi => by
    have hi' : i = 0 ∨ i = 1 := by omega
    rcases hi' with rfl | rfl
    · obtain ⟨p, c, hv, _, _, rd⟩ := H.form
      exact ⟨p, c, L, hv, hL, fun k => by simp [doneE], by simp [doneE, endsR], fun q hq => by obtain ⟨g, o, e, _, l, r⟩ := rd q hq; exact ⟨g, o, e, l, r⟩⟩
    · obtain ⟨p, c, hv, _, _, rd⟩ := K.form
      exact ⟨p, c, A, hv, hA, fun k => by simp [doneE], by simp [doneE], fun q hq => by obtain ⟨g, o, e, _, l, r⟩ := rd q hq; exact ⟨g, o, e, l, r⟩⟩
  have HT : Hid _ := TWO
  obtain ⟨p1, c1, hv1, _, _, _⟩ := H.form
  obtain ⟨p2, c2, hv2, _, _, _⟩ := K.form
  generalize L.length = n1 at hv1
  generalize A.length = n2 at hv2
  subst hv1
  subst hv2
  have E0 : Hid (∀ i k, i ≤ 2 → (doneE L A i k).length ≤ 400) := fun i k hi => by
    show _ ≤ _
    unfold doneE
    split
    · rw [endsR_len, List.length_take]; omega
    · split
      · rw [List.length_append, endsR_len, endsR_len, List.length_take]; omega
      · rw [List.length_append, endsR_len, endsR_len]; omega
  have EV : Hid (endsV L A = insAll (doneE L A 2 0) []) := rfl
  obtain ⟨RES, hRES⟩ : ∃ R, endsV L A = R := ⟨_, rfl⟩
  rw [hRES] at EV ⊢
  clear TWO H K hL hA hRES
  have B0 : Hid (Below w.heap.size w ((w.alloc (.cells #[] 3)).alloc (.cells #[.slice p1 n1 c1, .slice p2 n2 c2] 38)) ∧ Blk ((w.alloc (.cells #[] 3)).alloc (.cells #[.slice p1 n1 c1, .slice p2 n2 c2] 38)) (w.heap.size + 1) [.slice p1 n1 c1, .slice p2 n2 c2] 38 ∧ IL ((w.alloc (.cells #[] 3)).alloc (.cells #[.slice p1 n1 c1, .slice p2 n2 c2] 38)) w.heap.size (.slice (some ⟨w.heap.size, 0, none⟩) 0 0) []) := by
    refine ⟨below_new (Go.Joins.below_alloc1 _ _) _, ?_, ?_⟩
    · have := Blk.made (w.alloc (.cells #[] 3)) [.slice p1 n1 c1, .slice p2 n2 c2] 38
      rw [World.size_alloc] at this; exact this
    · exact ((ol_ll eI_len (ol_made (T := 3) w w.heap.size (Nat.le_refl _))).below (Go.Joins.below_alloc1 _ _))
  go_enter Try.func29, Try.ntmps29
  go_wp2_with fail
  generalize (w.alloc (.cells #[] 3)).alloc (.cells #[.slice p1 n1 c1, .slice p2 n2 c2] 38) = w1 at B0 ⊢
  generalize Value.slice (some ⟨w.heap.size, 0, none⟩) 0 0 = v5 at B0 ⊢
  obtain ⟨tb, htb⟩ : ∃ tb, w.heap.size + 1 = tb := ⟨_, rfl⟩
  rw [htb] at B0 ⊢
  have HTB : Hid (w.heap.size + 1 = tb) := htb
  clear htb
  go_loopw [5, 21] (fun v x W => ∃ i : Nat, i ≤ 2 ∧ x = .int .i64 i ∧ Hid (IL W w.heap.size v (insAll (doneE L A i 0) [])) ∧ Hid (Below w1.heap.size w1 W)) (fun _ x _ => 2 - (Go.RowKit.intOf x).toNat)
  case atStart => exact ⟨0, by omega, rfl, (by show IL w1 w.heap.size v5 (insAll (doneE L A 0 0) []); exact B0.out.2.2), Below.refl _ _⟩
  case round =>
    obtain ⟨i, hi, rfl, JL, JB⟩ := hrel
    by_cases ci : i < 2
    rotate_left
    · obtain rfl : i = 2 := by omega
      have d1 : decide ((2 : Int) < 2) = false := by decide
      rw [show ((2 : Nat) : Int) = (2 : Int) from rfl]
      go_wp2_with fail
      go_ret
      exact ⟨u5, rfl, by rw [EV.out]; exact JL.out, below_then B0.out.1 JB.out⟩
    have d1 : decide ((i : Int) < 2) = true := decide_eq_true (by omega)
    have d0 : decide ((i : Int) < 0) = false := by simp
    obtain ⟨pm, cm, M, hvm, M9, hD, hD2, rd⟩ := HT.out i ci
    have y0 : wr.cell? ⟨tb, i, none⟩ = some (.slice pm M.length cm) := by
      rw [((B0.out.2.1).below JB.out).cell i, ← hvm]
      have hi' : i = 0 ∨ i = 1 := by omega
      rcases hi' with rfl | rfl <;> rfl
    obtain ⟨pre, hpre⟩ : ∃ pre, (if i = 0 then [] else endsR L) = pre := ⟨_, rfl⟩
    rw [hpre] at hD2
    have HD : Hid (∀ k, doneE L A i k = pre ++ endsR (M.take k)) := fun k => by rw [hD k, hpre]
    have HD2 : Hid (doneE L A (i + 1) 0 = pre ++ endsR M) := hD2
    have RD : Hid (∀ q (hq : q < M.length), ∃ g o, pm = some ⟨g, o, none⟩ ∧ g < w.heap.size ∧ ∀ j, j < 2 → w.cell? ⟨g, o + q * 2 + j, none⟩ = (eR M[q])[j]?) := rd
    obtain ⟨m, hm⟩ : ∃ m, M.length = m := ⟨_, rfl⟩
    have HM : Hid (M.length = m) := hm
    rw [hm] at y0 M9
    have JL1 : Hid (IL wr w.heap.size u5 (insAll (pre ++ endsR (M.take 0)) [])) := by rw [← HD.out 0]; exact JL.out
    clear hvm hD hD2 rd hm hpre JL
    go_wp2_with fail
    clear y0
    go_loopw [5, 27] (fun v x W => ∃ k : Nat, k ≤ m ∧ x = .int .i64 k ∧ Hid (IL W w.heap.size v (insAll (pre ++ endsR (M.take k)) [])) ∧ Hid (Below w1.heap.size w1 W)) (fun _ x _ => m - (Go.RowKit.intOf x).toNat)
    case atStart => exact ⟨0, by omega, rfl, JL1, JB⟩
    case round =>
      clear JL1 JB
      obtain ⟨k, hk, rfl, JL, JB⟩ := hrel
      by_cases ck : k < m
      rotate_left
      · obtain rfl : k = m := by omega
        have dk : decide ((k : Int) < (k : Int)) = false := by simp
        have JN : Hid (IL wr w.heap.size u5 (insAll (doneE L A (i + 1) 0) [])) := by
          rw [HD2.out]
          have := JL.out
          rw [← HM.out, List.take_length] at this
          exact this
        clear JL
        go_wp2_with fail
        go_roundw
        case rel => exact ⟨i + 1, by omega, by go_num, JN, JB⟩
        case measure => simp [Go.RowKit.intOf]; omega
      have dk : decide ((k : Int) < (m : Int)) = true := decide_eq_true (by omega)
      have d0k : decide ((k : Int) < 0) = false := by simp
      have kS : k < M.length := by rw [HM.out]; exact ck
      have WB : Hid (Below w.heap.size w wr) := below_then B0.out.1 JB.out
      obtain ⟨g, og, rfl, lg, rc⟩ := RD.out k kS
      have y0 : wr.cell? ⟨g, og + k * 2, none⟩ = some (.int .i64 M[k].1) := (World.cell?_of_block (WB.out.block g lg)).trans (rc 0 (by omega))
      have y1 : wr.cell? ⟨g, og + k * 2 + 1, none⟩ = some (.int .i64 M[k].2) := (World.cell?_of_block (WB.out.block g lg)).trans (rc 1 (by omega))
      have PL : Hid ((pre ++ endsR (M.take (k + 1))).length ≤ 400) := by rw [← HD.out (k + 1)]; exact E0.out i (k + 1) (by omega)
      have PN : Hid (pre ++ endsR (M.take (k + 1)) = (pre ++ endsR (M.take k)) ++ [M[k].1, M[k].2]) := by show _ = _; rw [endsR_next kS, List.append_assoc]
      obtain ⟨P0, hP0⟩ : ∃ P0, pre ++ endsR (M.take k) = P0 := ⟨_, rfl⟩
      rw [hP0] at JL PN
      generalize M[k].1 = a at y0 PN
      generalize M[k].2 = b at y1 PN
      have JL0 : Hid (IL (((wr.alloc (.cells #[.int .i64 a, .int .i64 b] 44))).alloc (.cells #[.int .i64 a, .int .i64 b] 3)) w.heap.size u5 (insAll (P0 ++ [a, b].take 0) [])) := by
        show IL _ w.heap.size u5 (insAll (P0 ++ []) [])
        rw [List.append_nil]; exact (JL.out.below (Go.Joins.below_alloc1 _ _)).below (Go.Joins.below_alloc1 _ _)
      have JB0 : Hid (Below w1.heap.size w1 ((wr.alloc (.cells #[.int .i64 a, .int .i64 b] 44)).alloc (.cells #[.int .i64 a, .int .i64 b] 3))) := below_new (below_new JB.out _) _
      have TB : Hid (Blk ((wr.alloc (.cells #[.int .i64 a, .int .i64 b] 44)).alloc (.cells #[.int .i64 a, .int .i64 b] 3)) (wr.heap.size + 1) [.int .i64 a, .int .i64 b] 3) := by
        have := Blk.made (wr.alloc (.cells #[.int .i64 a, .int .i64 b] 44)) [.int .i64 a, .int .i64 b] 3
        rw [World.size_alloc] at this; exact this
      clear rc lg hP0 JL JB WB
      go_wp2_with fail
      clear y0 y1
      generalize (wr.alloc (.cells #[.int .i64 a, .int .i64 b] 44)).alloc (.cells #[.int .i64 a, .int .i64 b] 3) = w2 at JL0 JB0 TB ⊢
      generalize wr.heap.size + 1 = eb at TB ⊢
      generalize wr.heap.size = xb at *
      go_loopw [5, 37] (fun v x W => ∃ q : Nat, q ≤ 2 ∧ x = .int .i64 q ∧ Hid (IL W w.heap.size v (insAll (P0 ++ [a, b].take q) [])) ∧ Hid (Below w1.heap.size w1 W) ∧ Hid (Blk W eb [.int .i64 a, .int .i64 b] 3)) (fun _ x _ => 2 - (Go.RowKit.intOf x).toNat)
      case atStart => exact ⟨0, by omega, rfl, JL0, JB0, TB⟩
      case round =>
        clear JL0 JB0 TB
        obtain ⟨q, hq, rfl, JL, JB, TB⟩ := hrel
        by_cases cq : q < 2
        rotate_left
        · obtain rfl : q = 2 := by omega
          have dq : decide ((2 : Int) < 2) = false := by decide
          have JN : Hid (IL wr w.heap.size u5 (insAll (pre ++ endsR (M.take (k + 1))) [])) := by rw [PN.out]; exact JL.out
          clear JL
          rw [show ((2 : Nat) : Int) = (2 : Int) from rfl]
          go_wp2_with fail
          go_roundw
          case rel => exact ⟨k + 1, by omega, by go_num, JN, JB⟩
          case measure => simp [Go.RowKit.intOf]; omega
        have dq : decide ((q : Int) < 2) = true := decide_eq_true (by omega)
        have d0q : decide ((q : Int) < 0) = false := by simp
        obtain ⟨n, hn⟩ : ∃ n, [a, b][q]? = some n := by
          have : q = 0 ∨ q = 1 := by omega
          rcases this with rfl | rfl
          · exact ⟨a, rfl⟩
          · exact ⟨b, rfl⟩
        have yq : wr.cell? ⟨eb, q, none⟩ = some (.int .i64 n) := by
          rw [TB.out.cell q]
          have : q = 0 ∨ q = 1 := by omega
          rcases this with rfl | rfl
          · cases hn; rfl
          · cases hn; rfl
        have NP : Hid (insAll (P0 ++ [a, b].take (q + 1)) [] = insU n (insAll (P0 ++ [a, b].take q) [])) := by
          show _ = _
          have e : [a, b].take (q + 1) = [a, b].take q ++ [n] := by
            have : q = 0 ∨ q = 1 := by omega
            rcases this with rfl | rfl
            · cases hn; rfl
            · cases hn; rfl
          rw [e, ← List.append_assoc, insAll_app]; rfl
        have OL9 : Hid ((insAll (P0 ++ [a, b].take q) []).length ≤ 400 ∧ Inc (insAll (P0 ++ [a, b].take q) [])) := by
          refine ⟨?_, insAll_inc _ _ List.Pairwise.nil⟩
          have h1 := insAll_len (P0 ++ [a, b].take q) []
          have h2 := PL.out
          rw [PN.out] at h2
          simp at h1 h2
          omega
        generalize insAll (P0 ++ [a, b].take q) [] = O at JL NP OL9
        obtain ⟨po, co, hvo, _, _, rdo⟩ := JL.out.form
        have RO : Hid (∀ s (hs : s < O.length), ∃ g o, po = some ⟨g, o, none⟩ ∧ w.heap.size ≤ g ∧ g < wr.heap.size ∧ ∀ j, j < 1 → wr.cell? ⟨g, o + s * 1 + j, none⟩ = (eI O[s])[j]?) := rdo
        obtain ⟨no, hno⟩ : ∃ no, O.length = no := ⟨_, rfl⟩
        have HNO : Hid (O.length = no) := hno
        have no9 : no ≤ 400 := by rw [← hno]; exact OL9.out.1
        rw [hno] at hvo
        subst hvo
        clear rdo hno hn JL
        go_wp2_with fail
        clear yq
        have J0 : Hid (OI (wr.alloc (.cells #[] 3)) wr.heap.size (.slice (some ⟨wr.heap.size, 0, none⟩) 0 0) (goI n (O.take 0)).1 ∧ Below wr.heap.size wr (wr.alloc (.cells #[] 3))) := ⟨ol_made wr _ (Nat.le_refl _), Go.Joins.below_alloc1 _ _⟩
        generalize wr.alloc (.cells #[] 3) = w3 at J0 ⊢
        generalize Value.slice (some ⟨wr.heap.size, 0, none⟩) 0 0 = v12 at J0 ⊢
        generalize wr = wb at *
        go_loopw [12, 13, 44] (fun v d x W => ∃ s : Nat, s ≤ no ∧ x = .int .i64 s ∧ d = .bool (goI n (O.take s)).2 ∧ Hid (OI W wb.heap.size v (goI n (O.take s)).1 ∧ Below wb.heap.size wb W)) (fun _ _ x _ => no - (Go.RowKit.intOf x).toNat)
        case atStart => exact ⟨0, by omega, rfl, rfl, J0⟩
        case round =>
          clear J0
          obtain ⟨s, hs, rfl, rfl, J⟩ := hrel
          have SL : Hid ((goI n (O.take s)).1.length ≤ 1000) := by
            have := goI_len n (O.take s) ([], false)
            rw [List.length_take] at this
            show _ ≤ _
            unfold goI
            simp at this
            omega
          by_cases cs : s < no
          rotate_left
          · obtain rfl : s = no := by omega
            have ds : decide ((s : Int) < (s : Int)) = false := by simp
            have e9 : O.take s = O := by rw [← HNO.out, List.take_length]
            rw [e9] at J SL ⊢
            have EN := goI_end n O OL9.out.2
            generalize hst : goI n O = st at J SL EN ⊢
            obtain ⟨S1, S2⟩ := st
            cases S2 with
            | true =>
              rw [if_pos rfl] at EN
              have JN : Hid (IL wr w.heap.size u12 (insAll (P0 ++ [a, b].take (q + 1)) []) ∧ Below w1.heap.size w1 wr ∧ Blk wr eb [.int .i64 a, .int .i64 b] 3) := by
                rw [NP.out, EN]
                exact ⟨(ol_ll eI_len J.out.1).low (Nat.le_trans B0.out.1.size JB.out.size), below_then JB.out J.out.2, TB.out.below J.out.2⟩
              clear J EN SL hst e9
              go_wp2_with fail
              go_roundw
              case rel => exact ⟨q + 1, by omega, by go_num, JN.out.1, JN.out.2.1, JN.out.2.2⟩
              case measure => simp [Go.RowKit.intOf]; omega
            | false =>
              rw [if_neg (by simp)] at EN
              have J1 := J.out
              obtain ⟨v1, X1, r1, ho1, hg1, _⟩ := app_row eI_len eI_one (by decide) Try.underlying62 infoI rfl (by decide) wb.heap.size u12 S1 n (by have h : S1.length ≤ 1000 := SL.out; simp; omega) wr J1.1 J1.2.size
              have J2 : OI X1 wb.heap.size v1 (S1 ++ [n]) ∧ Below wb.heap.size wb X1 := ⟨ho1, (below_new J1.2 _).grown hg1 (by rw [World.size_alloc]; have := J1.2.size; omega) (fun g e => (row_lt J1.1 g e).1)⟩
              clear ho1 hg1
              have JN : Hid (IL X1 w.heap.size v1 (insAll (P0 ++ [a, b].take (q + 1)) []) ∧ Below w1.heap.size w1 X1 ∧ Blk X1 eb [.int .i64 a, .int .i64 b] 3) := by
                rw [NP.out, EN]
                exact ⟨(ol_ll eI_len J2.1).low (Nat.le_trans B0.out.1.size JB.out.size), below_then JB.out J2.2, TB.out.below J2.2⟩
              clear J J1 J2 EN SL hst e9
              go_wp2_with (at_builtin; refine wpList_app rfl _ _ 62 rfl u12 (.slice (some ⟨wr.heap.size, 0, none⟩) 1 1) rfl rfl v1 X1 r1 ?_)
              go_roundw
              case rel => exact ⟨q + 1, by omega, by go_num, JN.out.1, JN.out.2.1, JN.out.2.2⟩
              case measure => simp [Go.RowKit.intOf]; omega
          have ds : decide ((s : Int) < (no : Int)) = true := decide_eq_true (by omega)
          have d0s : decide ((s : Int) < 0) = false := by simp
          have sO : s < O.length := by rw [HNO.out]; exact cs
          obtain ⟨go, oo, rfl, _, lgo, rco⟩ := RO.out s sO
          have ys : wr.cell? ⟨go, oo + s, none⟩ = some (.int .i64 O[s]) := (World.cell?_of_block (J.out.2.block go lgo)).trans (by have := rco 0 (by omega); rw [Nat.mul_one, Nat.add_zero] at this; exact this)
          have NX : Hid (goI n (O.take (s + 1)) = stI n (goI n (O.take s)) O[s]) := goI_next n O s sO
          obtain ⟨T, hT⟩ : ∃ T, goI n (O.take (s + 1)) = T := ⟨_, rfl⟩
          rw [hT] at NX
          have HTT : Hid (goI n (O.take (s + 1)) = T) := hT
          generalize goI n (O.take s) = st at J SL NX ⊢
          generalize O[s] = x at ys NX
          obtain ⟨S1, S2⟩ := st
          clear rco lgo hT
          have J1 := J.out
          by_cases cx : x = n
          · subst cx
            obtain ⟨v1, X1, r1, ho1, hg1, _⟩ := app_row eI_len eI_one (by decide) Try.underlying62 infoI rfl (by decide) wb.heap.size u12 S1 x (by have h : S1.length ≤ 1000 := SL.out; simp; omega) wr J1.1 J1.2.size
            have J2 : OI X1 wb.heap.size v1 (S1 ++ [x]) ∧ Below wb.heap.size wb X1 := ⟨ho1, (below_new J1.2 _).grown hg1 (by rw [World.size_alloc]; have := J1.2.size; omega) (fun g e => (row_lt J1.1 g e).1)⟩
            clear ho1 hg1
            have JN : Hid (T.2 = true ∧ OI X1 wb.heap.size v1 T.1 ∧ Below wb.heap.size wb X1) := by rw [NX.out, stI_eq]; exact ⟨rfl, J2⟩
            have ex : (x == x) = true := by simp
            clear J J1 J2 NX
            cases S2 with
            | true =>
              go_wp2_with (at_builtin; refine wpList_app rfl _ _ 62 rfl u12 (.slice (some ⟨wr.heap.size, 0, none⟩) 1 1) rfl rfl v1 X1 r1 ?_)
              go_roundw
              case rel => exact ⟨s + 1, by omega, by go_num, by rw [HTT.out, JN.out.1], by rw [HTT.out]; exact JN.out.2⟩
              case measure => simp [Go.RowKit.intOf]; omega
            | false =>
              go_wp2_with (at_builtin; refine wpList_app rfl _ _ 62 rfl u12 (.slice (some ⟨wr.heap.size, 0, none⟩) 1 1) rfl rfl v1 X1 r1 ?_)
              go_roundw
              case rel => exact ⟨s + 1, by omega, by go_num, by rw [HTT.out, JN.out.1], by rw [HTT.out]; exact JN.out.2⟩
              case measure => simp [Go.RowKit.intOf]; omega
          have ex : (x == n) = false := by simp [cx]
          cases S2 with
          | true =>
            obtain ⟨v1, X1, r1, ho1, hg1, _⟩ := app_row eI_len eI_one (by decide) Try.underlying62 infoI rfl (by decide) wb.heap.size u12 S1 x (by have h : S1.length ≤ 1000 := SL.out; simp; omega) wr J1.1 J1.2.size
            have J2 : OI X1 wb.heap.size v1 (S1 ++ [x]) ∧ Below wb.heap.size wb X1 := ⟨ho1, (below_new J1.2 _).grown hg1 (by rw [World.size_alloc]; have := J1.2.size; omega) (fun g e => (row_lt J1.1 g e).1)⟩
            clear ho1 hg1
            have JN : Hid (T.2 = true ∧ OI X1 wb.heap.size v1 T.1 ∧ Below wb.heap.size wb X1) := by rw [NX.out, stI_on _ cx]; exact ⟨rfl, J2⟩
            clear J J1 J2 NX
            go_wp2_with (at_builtin; refine wpList_app rfl _ _ 62 rfl u12 (.slice (some ⟨wr.heap.size, 0, none⟩) 1 1) rfl rfl v1 X1 r1 ?_)
            go_roundw
            case rel => exact ⟨s + 1, by omega, by go_num, by rw [HTT.out, JN.out.1], by rw [HTT.out]; exact JN.out.2⟩
            case measure => simp [Go.RowKit.intOf]; omega
          | false =>
            by_cases cn : n < x
            · have en : decide (n < x) = true := decide_eq_true cn
              obtain ⟨v1, X1, r1, ho1, hg1, _⟩ := app_row eI_len eI_one (by decide) Try.underlying62 infoI rfl (by decide) wb.heap.size u12 S1 n (by have h : S1.length ≤ 1000 := SL.out; simp; omega) wr J1.1 J1.2.size
              have J2 : OI X1 wb.heap.size v1 (S1 ++ [n]) ∧ Below wb.heap.size wb X1 := ⟨ho1, (below_new J1.2 _).grown hg1 (by rw [World.size_alloc]; have := J1.2.size; omega) (fun g e => (row_lt J1.1 g e).1)⟩
              clear ho1 hg1
              obtain ⟨v2, X2, r2, ho2, hg2, _⟩ := app_row eI_len eI_one (by decide) Try.underlying62 infoI rfl (by decide) wb.heap.size v1 (S1 ++ [n]) x (by have h : S1.length ≤ 1000 := SL.out; simp; omega) X1 J2.1 J2.2.size
              have J3 : OI X2 wb.heap.size v2 ((S1 ++ [n]) ++ [x]) ∧ Below wb.heap.size wb X2 := ⟨ho2, (below_new J2.2 _).grown hg2 (by rw [World.size_alloc]; have := J2.2.size; omega) (fun g e => (row_lt J2.1 g e).1)⟩
              clear ho2 hg2
              have JN : Hid (T.2 = true ∧ OI X2 wb.heap.size v2 T.1 ∧ Below wb.heap.size wb X2) := by rw [NX.out, stI_in _ cx cn]; exact ⟨rfl, J3⟩
              clear J J1 J2 J3 NX
              go_wp2_with (at_builtin; first | (refine wpList_app rfl _ _ 62 rfl u12 (.slice (some ⟨wr.heap.size, 0, none⟩) 1 1) rfl rfl v1 X1 r1 ?_) | (refine wpList_app rfl _ _ 62 rfl v1 (.slice (some ⟨X1.heap.size, 0, none⟩) 1 1) rfl rfl v2 X2 r2 ?_))
              go_roundw
              case rel => exact ⟨s + 1, by omega, by go_num, by rw [HTT.out, JN.out.1], by rw [HTT.out]; exact JN.out.2⟩
              case measure => simp [Go.RowKit.intOf]; omega
            · have en : decide (n < x) = false := decide_eq_false cn
              obtain ⟨v1, X1, r1, ho1, hg1, _⟩ := app_row eI_len eI_one (by decide) Try.underlying62 infoI rfl (by decide) wb.heap.size u12 S1 x (by have h : S1.length ≤ 1000 := SL.out; simp; omega) wr J1.1 J1.2.size
              have J2 : OI X1 wb.heap.size v1 (S1 ++ [x]) ∧ Below wb.heap.size wb X1 := ⟨ho1, (below_new J1.2 _).grown hg1 (by rw [World.size_alloc]; have := J1.2.size; omega) (fun g e => (row_lt J1.1 g e).1)⟩
              clear ho1 hg1
              have JN : Hid (T.2 = false ∧ OI X1 wb.heap.size v1 T.1 ∧ Below wb.heap.size wb X1) := by rw [NX.out, stI_no _ cx cn]; exact ⟨rfl, J2⟩
              clear J J1 J2 NX
              go_wp2_with (at_builtin; refine wpList_app rfl _ _ 62 rfl u12 (.slice (some ⟨wr.heap.size, 0, none⟩) 1 1) rfl rfl v1 X1 r1 ?_)
              go_roundw
              case rel => exact ⟨s + 1, by omega, by go_num, by rw [HTT.out, JN.out.1], by rw [HTT.out]; exact JN.out.2⟩
              case measure => simp [Go.RowKit.intOf]; omega
end Go.Proofs.Ytkgjeemecpigpaa.Bm
