/- For any list, range, way, use and kind: of at most 70 regions of numbers of at most 40 bits pages are added, cut and protected as the document says, page by page, with its errors, and regions merged; no condition. -/
import Derived.Test.YtngaodfajihmmaaRows
import Derived.ProofKit
import Derived.OpenShut
import Derived.Carry
import Derived.Test.YtngaodfajihmmaaG21
namespace Go.Proofs.Ytngaodfajihmmaa.regionChanges
open Go.ChangeShapes Go.WideShapes Go.ChangeAt Go.RowKit Go.Maps
set_option linter.unusedSimpArgs false
set_option linter.unusedVariables false
theorem out_facts (E : Int) (M CV : List Rg) (h : errA E M = 0 → CV = M) : (outL E M).length ≤ 64 ∧ (errA E M = 0 → CV = outL E M) ∧ (errA E M ≠ 0 → (outL E M).length = 0) := by
  unfold outL
  by_cases e : errA E M = 0
  · rw [if_pos e]
    refine ⟨?_, fun _ => h e, fun q => absurd e q⟩
    unfold errA at e
    split at e
    · split at e
      · assumption
      · cases e
    · contradiction
  · rw [if_neg e]
    exact ⟨by simp, fun q => absurd q e, fun _ => rfl⟩
theorem inBelow {w w' : World} {p : Option Addr} {n : Nat} {A : Nat → Rg} (h : IsIn w p n A) (hb : Below w.heap.size w w') : IsIn w' p n A := fun i hi => by
  obtain ⟨b, o, e, l, c⟩ := h i hi
  exact ⟨b, o, e, Nat.lt_of_lt_of_le l hb.size, fun j x hx => (hb.cell (p := ⟨b, o + i * 6 + j, none⟩) l).trans (c j x hx)⟩

set_option maxRecDepth 8000 in
set_option maxHeartbeats 16000000 in
theorem walk (p0 : Option Addr) (n0 c0 : Nat) (A0 : Nat → Rg) (m0 : n0 ≤ maxLen) (a1 : Int) (w1 : (Lit.int .i64 a1).wf = true) (a2 : Int) (w2 : (Lit.int .i64 a2).wf = true) (a3 : Int) (w3 : (Lit.int .i64 a3).wf = true) (b4a b4b b4c : Bool) (a5 : Int) (w5 : (Lit.int .i64 a5).wf = true) (w : World) (H0 : IsIn w p0 n0 A0) :
    Calls Try.prog 3 #[.slice p0 n0 c0, .int .i64 a1, .int .i64 a2, .int .i64 a3, .agg #[.bool b4a, .bool b4b, .bool b4c], .int .i64 a5] w fun e w' => e = .returned (.bool true) ∧ Below w.heap.size w w' := by
  have AWH : Hid (∀ W : World, Calls Try.prog 16 #[] W fun e w' => e = .returned (.bool true) ∧ Below W.heap.size W w') := fun W => awake_any W
  have TD : Hid (∀ W : World, IsIn W p0 n0 A0 → Calls Try.prog 9 #[.slice p0 n0 c0] W fun e w' => ∃ p' c', e = .returned (.slice p' (toldL A0 (min n0 70)).length c') ∧ IsL w' W.heap.size p' (toldL A0 (min n0 70)) ∧ Below W.heap.size W w') := fun W h => told_any p0 n0 c0 A0 m0 W h
  have LM : (toldL A0 (min n0 70)).length ≤ 70 := by rw [told_len]; omega
  have NM := told_num A0 (min n0 70)
  obtain ⟨M, hM⟩ : ∃ M, toldL A0 (min n0 70) = M := ⟨_, rfl⟩
  rw [hM] at TD LM NM
  have HIN : Hid (IsIn w p0 n0 A0) := H0
  clear hM H0
  obtain ⟨f, hf⟩ : ∃ x, a1.tmod 1099511627776 = x := ⟨_, rfl⟩
  obtain ⟨t, ht⟩ : ∃ x, a2.tmod 1099511627776 = x := ⟨_, rfl⟩
  have OC : Hid (∀ (p : Option Addr) (c : Nat) (W : World), IsL W 0 p M → Calls Try.prog 11 #[.slice p M.length c] W fun e w' => ∃ p' c', e = .returned (.slice p' M.length c') ∧ M.length ≤ c' ∧ IsL w' W.heap.size p' M ∧ Below W.heap.size W w') := fun p c W h => of_any 0 p c M (by omega) W h
  have ONE : Hid (∀ W : World, Calls Try.prog 12 #[.agg #[.int .i64 f, .int .i64 t, .bool b4a, .bool b4b, .bool b4c, .int .i64 a5]] W fun e w' => e = .returned (.agg #[.int .i64 f, .int .i64 t, .bool b4a, .bool b4b, .bool b4c, .int .i64 a5]) ∧ Below W.heap.size W w') := fun W => one_any ⟨f, t, b4a, b4b, b4c, a5⟩ W
  obtain ⟨E1, hE1⟩ : ∃ E, errA (addN M ⟨f, t, b4a, b4b, b4c, a5⟩) (addL M ⟨f, t, b4a, b4b, b4c, a5⟩) = E := ⟨_, rfl⟩
  obtain ⟨M1, hM1⟩ : ∃ M', outL (addN M ⟨f, t, b4a, b4b, b4c, a5⟩) (addL M ⟨f, t, b4a, b4b, b4c, a5⟩) = M' := ⟨_, rfl⟩
  obtain ⟨V1, hV1⟩ : ∃ V, changeV M f t (hhF 1 ⟨f, t, b4a, b4b, b4c, a5⟩) = V := ⟨_, rfl⟩
  have C1 : Hid (∀ (p : Option Addr) (c : Nat) (W : World), M.length ≤ c → IsL W 0 p M → Calls Try.prog 10 #[.slice p M.length c, .agg #[.int .i64 f, .int .i64 t, .bool b4a, .bool b4b, .bool b4c, .int .i64 a5]] W fun e w' => ∃ p' c', e = .returned (.tuple #[.slice p' M1.length c', .int .i64 E1]) ∧ M1.length ≤ c' ∧ IsL w' 0 p' M1 ∧ Below W.heap.size W w') := fun p c W hc h => add_outb 0 p c M (by omega) hc ⟨f, t, b4a, b4b, b4c, a5⟩ E1 M1 hE1 hM1 W h (Nat.zero_le _)
  have R1 : Hid (∀ (p : Option Addr) (c : Nat) (W : World), IsL W 0 p M → Calls Try.prog 15 #[.slice p M.length c, .int .i64 f, .int .i64 t, .int .i64 1, .agg #[.int .i64 f, .int .i64 t, .bool b4a, .bool b4b, .bool b4c, .int .i64 a5]] W fun e w' => e = .returned (.int .i64 E1) ∧ Below W.heap.size W w') := fun p c W h => by
    have q := errr_any 0 p c M (by omega) NM f t 1 (by omega) ⟨f, t, b4a, b4b, b4c, a5⟩ W h
    rw [(err_add M ⟨f, t, b4a, b4b, b4c, a5⟩).1, hE1] at q; exact q
  have D1 : Hid (∀ (p : Option Addr) (c : Nat) (W : World), IsL W 0 p M → Calls Try.prog 18 #[.slice p M.length c, .int .i64 f, .int .i64 t, .int .i64 1, .agg #[.int .i64 f, .int .i64 t, .bool b4a, .bool b4b, .bool b4c, .int .i64 a5]] W fun e w' => ∃ p' c', e = .returned (.slice p' V1.length c') ∧ IsL w' W.heap.size p' V1 ∧ Below W.heap.size W w') := fun p c W h => by
    have q := change_any 0 p c M (by omega) f t 1 (by omega) ⟨f, t, b4a, b4b, b4c, a5⟩ W h
    rw [hV1] at q; exact q
  have K1 : Hid (M1.length ≤ 64 ∧ (E1 = 0 → V1 = M1) ∧ (E1 ≠ 0 → M1.length = 0)) := by
    have q := out_facts (addN M ⟨f, t, b4a, b4b, b4c, a5⟩) (addL M ⟨f, t, b4a, b4b, b4c, a5⟩) V1 (by rw [← hV1]; exact (err_add M ⟨f, t, b4a, b4b, b4c, a5⟩).2)
    rw [hE1, hM1] at q; exact q
  clear hE1 hM1 hV1
  obtain ⟨E2, hE2⟩ : ∃ E, errA (checkN M f t) (chg (fun _ => Rg.zero) f t M) = E := ⟨_, rfl⟩
  obtain ⟨M2, hM2⟩ : ∃ M', outL (checkN M f t) (chg (fun _ => Rg.zero) f t M) = M' := ⟨_, rfl⟩
  obtain ⟨V2, hV2⟩ : ∃ V, changeV M f t (hhF 2 ⟨f, t, b4a, b4b, b4c, a5⟩) = V := ⟨_, rfl⟩
  have C2 : Hid (∀ (p : Option Addr) (c : Nat) (W : World), M.length ≤ c → IsL W 0 p M → Calls Try.prog 13 #[.slice p M.length c, .agg #[.int .i64 f, .int .i64 t]] W fun e w' => ∃ p' c', e = .returned (.tuple #[.slice p' M2.length c', .int .i64 E2]) ∧ M2.length ≤ c' ∧ IsL w' 0 p' M2 ∧ Below W.heap.size W w') := fun p c W hc h => cut_outb 0 p c M (by omega) f t E2 M2 hE2 hM2 W h (Nat.zero_le _)
  have R2 : Hid (∀ (p : Option Addr) (c : Nat) (W : World), IsL W 0 p M → Calls Try.prog 15 #[.slice p M.length c, .int .i64 f, .int .i64 t, .int .i64 2, .agg #[.int .i64 f, .int .i64 t, .bool b4a, .bool b4b, .bool b4c, .int .i64 a5]] W fun e w' => e = .returned (.int .i64 E2) ∧ Below W.heap.size W w') := fun p c W h => by
    have q := errr_any 0 p c M (by omega) NM f t 2 (by omega) ⟨f, t, b4a, b4b, b4c, a5⟩ W h
    rw [(err_cut M f t ⟨f, t, b4a, b4b, b4c, a5⟩).1, hE2] at q; exact q
  have D2 : Hid (∀ (p : Option Addr) (c : Nat) (W : World), IsL W 0 p M → Calls Try.prog 18 #[.slice p M.length c, .int .i64 f, .int .i64 t, .int .i64 2, .agg #[.int .i64 f, .int .i64 t, .bool b4a, .bool b4b, .bool b4c, .int .i64 a5]] W fun e w' => ∃ p' c', e = .returned (.slice p' V2.length c') ∧ IsL w' W.heap.size p' V2 ∧ Below W.heap.size W w') := fun p c W h => by
    have q := change_any 0 p c M (by omega) f t 2 (by omega) ⟨f, t, b4a, b4b, b4c, a5⟩ W h
    rw [hV2] at q; exact q
  have K2 : Hid (M2.length ≤ 64 ∧ (E2 = 0 → V2 = M2) ∧ (E2 ≠ 0 → M2.length = 0)) := by
    have q := out_facts (checkN M f t) (chg (fun _ => Rg.zero) f t M) V2 (by rw [← hV2]; exact (err_cut M f t ⟨f, t, b4a, b4b, b4c, a5⟩).2)
    rw [hE2, hM2] at q; exact q
  clear hE2 hM2 hV2
  obtain ⟨E3, hE3⟩ : ∃ E, errA (protN M f t) (chg (fun r => r.may b4a b4b b4c) f t M) = E := ⟨_, rfl⟩
  obtain ⟨M3, hM3⟩ : ∃ M', outL (protN M f t) (chg (fun r => r.may b4a b4b b4c) f t M) = M' := ⟨_, rfl⟩
  obtain ⟨V3, hV3⟩ : ∃ V, changeV M f t (hhF 3 ⟨f, t, b4a, b4b, b4c, a5⟩) = V := ⟨_, rfl⟩
  have C3 : Hid (∀ (p : Option Addr) (c : Nat) (W : World), M.length ≤ c → IsL W 0 p M → Calls Try.prog 14 #[.slice p M.length c, .agg #[.int .i64 f, .int .i64 t], .agg #[.bool b4a, .bool b4b, .bool b4c]] W fun e w' => ∃ p' c', e = .returned (.tuple #[.slice p' M3.length c', .int .i64 E3]) ∧ M3.length ≤ c' ∧ IsL w' 0 p' M3 ∧ Below W.heap.size W w') := fun p c W hc h => prot_outb 0 p c M (by omega) f t b4a b4b b4c E3 M3 hE3 hM3 W h (Nat.zero_le _)
  have R3 : Hid (∀ (p : Option Addr) (c : Nat) (W : World), IsL W 0 p M → Calls Try.prog 15 #[.slice p M.length c, .int .i64 f, .int .i64 t, .int .i64 3, .agg #[.int .i64 f, .int .i64 t, .bool b4a, .bool b4b, .bool b4c, .int .i64 a5]] W fun e w' => e = .returned (.int .i64 E3) ∧ Below W.heap.size W w') := fun p c W h => by
    have q := errr_any 0 p c M (by omega) NM f t 3 (by omega) ⟨f, t, b4a, b4b, b4c, a5⟩ W h
    rw [(err_prot M f t ⟨f, t, b4a, b4b, b4c, a5⟩).1, hE3] at q; exact q
  have D3 : Hid (∀ (p : Option Addr) (c : Nat) (W : World), IsL W 0 p M → Calls Try.prog 18 #[.slice p M.length c, .int .i64 f, .int .i64 t, .int .i64 3, .agg #[.int .i64 f, .int .i64 t, .bool b4a, .bool b4b, .bool b4c, .int .i64 a5]] W fun e w' => ∃ p' c', e = .returned (.slice p' V3.length c') ∧ IsL w' W.heap.size p' V3 ∧ Below W.heap.size W w') := fun p c W h => by
    have q := change_any 0 p c M (by omega) f t 3 (by omega) ⟨f, t, b4a, b4b, b4c, a5⟩ W h
    rw [hV3] at q; exact q
  have K3 : Hid (M3.length ≤ 64 ∧ (E3 = 0 → V3 = M3) ∧ (E3 ≠ 0 → M3.length = 0)) := by
    have q := out_facts (protN M f t) (chg (fun r => r.may b4a b4b b4c) f t M) V3 (by rw [← hV3]; exact (err_prot M f t ⟨f, t, b4a, b4b, b4c, a5⟩).2)
    rw [hE3, hM3] at q; exact q
  clear hE3 hM3 hV3
  obtain ⟨n, hn⟩ : ∃ n, M.length = n := ⟨_, rfl⟩
  have HN : Hid (M.length = n) := hn
  rw [hn] at TD OC C1 C2 C3 R1 R2 R3 D1 D2 D3 LM
  have LI : (n : Int) ≤ 70 := by omega
  clear NM hn
  go_enter Try.func3, Try.ntmps3
  go_wp2_with fail
  refine (TD.out _ (inBelow HIN.out (Go.Joins.below_alloc1 _ _))).mono ?_
  rintro e u1 ⟨p1, c1, rfl, i1, hb⟩
  have Bu1 : Hid (Below w.heap.size w u1) := below_then (Go.Joins.below_alloc1 _ _) hb
  have Iu1 : Hid (IsL u1 0 p1 M) := i1.weak (Nat.zero_le _)
  have Yu1 : Hid (u1.heap[w.heap.size]? = some (.cells #[.bool b4a, .bool b4b, .bool b4c] 25 (0, 0))) := (hb.block _ (by rw [World.size_alloc]; omega)).trans (own1 w _)
  clear i1 hb TD HIN
  have y0 : u1.cell? ⟨w.heap.size, 0, none⟩ = some (.bool b4a) := Go.Joins.cell_of_block Yu1.out 0
  have y1 : u1.cell? ⟨w.heap.size, 1, none⟩ = some (.bool b4b) := Go.Joins.cell_of_block Yu1.out 1
  have y2 : u1.cell? ⟨w.heap.size, 2, none⟩ = some (.bool b4c) := Go.Joins.cell_of_block Yu1.out 2
  have ly : w.heap.size < u1.heap.size := blk_lt Yu1.out
  have XA : Hid ((((u1.alloc (.cells #[.int .i64 f, .int .i64 t] 29)).alloc (.cells #[.int .i64 f, .int .i64 t, .bool b4a, .bool b4b, .bool b4c, .int .i64 a5] 31)).heap[w.heap.size]? = some (.cells #[.bool b4a, .bool b4b, .bool b4c] 25 (0, 0)))) := ((Go.Joins.below_alloc2 _ _ _).block _ ly).trans Yu1.out
  have XB : Hid ((((u1.alloc (.cells #[.int .i64 f, .int .i64 t] 29)).alloc (.cells #[.int .i64 f, .int .i64 t, .bool b4a, .bool b4b, .bool b4c, .int .i64 a5] 31)).heap[u1.heap.size]? = some (.cells #[.int .i64 f, .int .i64 t] 29 (0, 0)))) := ((Go.Joins.below_alloc1 _ _).block _ (by rw [World.size_alloc]; omega)).trans (own1 u1 _)
  have XC : Hid ((((u1.alloc (.cells #[.int .i64 f, .int .i64 t] 29)).alloc (.cells #[.int .i64 f, .int .i64 t, .bool b4a, .bool b4b, .bool b4c, .int .i64 a5] 31)).heap[u1.heap.size + 1]? = some (.cells #[.int .i64 f, .int .i64 t, .bool b4a, .bool b4b, .bool b4c, .int .i64 a5] 31 (0, 0)))) := own2b u1 _ _
  have BW : Hid (Below w.heap.size w ((u1.alloc (.cells #[.int .i64 f, .int .i64 t] 29)).alloc (.cells #[.int .i64 f, .int .i64 t, .bool b4a, .bool b4b, .bool b4c, .int .i64 a5] 31))) := below_new (below_new Bu1.out _) _
  have IW : Hid (IsL ((u1.alloc (.cells #[.int .i64 f, .int .i64 t] 29)).alloc (.cells #[.int .i64 f, .int .i64 t, .bool b4a, .bool b4b, .bool b4c, .int .i64 a5] 31)) 0 p1 M) := Iu1.out.below (Go.Joins.below_alloc2 _ _ _)
  go_wp2_with fail
  clear Bu1 Iu1 Yu1 y0 y1 y2 ly
  generalize (u1.alloc (.cells #[.int .i64 f, .int .i64 t] 29)).alloc (.cells #[.int .i64 f, .int .i64 t, .bool b4a, .bool b4b, .bool b4c, .int .i64 a5] 31) = u2 at XA XB XC BW IW ⊢
  generalize u1.heap.size + 1 = qx at XC ⊢
  generalize u1.heap.size = qp at XB ⊢
  have Xu2 : Hid (u2.heap[w.heap.size]? = some (.cells #[.bool b4a, .bool b4b, .bool b4c] 25 (0, 0)) ∧ u2.heap[qp]? = some (.cells #[.int .i64 f, .int .i64 t] 29 (0, 0)) ∧ u2.heap[qx]? = some (.cells #[.int .i64 f, .int .i64 t, .bool b4a, .bool b4b, .bool b4c, .int .i64 a5] 31 (0, 0))) := ⟨XA.out, XB.out, XC.out⟩
  have Bu2 : Hid (Below w.heap.size w u2) := BW.out
  have Iu2 : Hid (IsL u2 0 p1 M) := IW.out
  clear XA XB XC BW IW
  refine wp_region_noPanic ?_
  refine wp_region_held_drew (S := fun c => c.heap[w.heap.size]? = some (.cells #[.bool b4a, .bool b4b, .bool b4c] 25 (0, 0)) ∧ c.heap[qp]? = some (.cells #[.int .i64 f, .int .i64 t] 29 (0, 0)) ∧ c.heap[qx]? = some (.cells #[.int .i64 f, .int .i64 t, .bool b4a, .bool b4b, .bool b4c, .int .i64 a5] 31 (0, 0))) (by kernel_rfl) ?_ (fun hHeld => ?_)
  · exact Xu2.out
  have BU : Hid (Below w.heap.size w u2.drew) := ⟨Bu2.out.os, Bu2.out.tape, Bu2.out.output, Bu2.out.size, Bu2.out.block⟩
  have IU : Hid (IsL u2.drew 0 p1 M) := Iu2.out
  have XU : Hid (u2.drew.heap[w.heap.size]? = some (.cells #[.bool b4a, .bool b4b, .bool b4c] 25 (0, 0)) ∧ u2.drew.heap[qp]? = some (.cells #[.int .i64 f, .int .i64 t] 29 (0, 0)) ∧ u2.drew.heap[qx]? = some (.cells #[.int .i64 f, .int .i64 t, .bool b4a, .bool b4b, .bool b4c, .int .i64 a5] 31 (0, 0))) := Xu2.out
  clear Bu2 Iu2 Xu2
  generalize u2.drew = U at BU IU XU hHeld ⊢
  refine wpAnyH_take (i := 0) (oi := ⟨some 34, _, _, _, _, none⟩) (v := ?_) rfl (by kernel_rfl) (by kernel_rfl) (by kernel_rfl) (fun _ _ _ h => h) (Or.inl ⟨by rfl, ?_⟩) (by assumption) ?_
  rotate_left
  · intro w hSw; (try dsimp only at hSw); go_simp; (try with_reducible rfl)
  try simp only [Act.put, List.setIfInBounds_toArray, List.set_cons_zero, List.set_cons_succ]
  refine wpAnyH_take (i := 2) (oi := ⟨some 36, _, _, _, _, none⟩) (v := .agg #[.int .i64 f, .int .i64 t, .bool b4a, .bool b4b, .bool b4c, .int .i64 a5]) rfl (by kernel_rfl) (by kernel_rfl) (by kernel_rfl) (fun _ _ _ h => h) (Or.inl ⟨by rfl, ?_⟩) (by assumption) ?_
  · intro w9 hSw; (try dsimp only at hSw); have q0 : w9.cell? ⟨qx, 0, none⟩ = some (.int .i64 f) := Go.Joins.cell_of_block hSw.2.2 0; have q1 : w9.cell? ⟨qx, 1, none⟩ = some (.int .i64 t) := Go.Joins.cell_of_block hSw.2.2 1; have q2 : w9.cell? ⟨qx, 2, none⟩ = some (.bool b4a) := Go.Joins.cell_of_block hSw.2.2 2; have q3 : w9.cell? ⟨qx, 3, none⟩ = some (.bool b4b) := Go.Joins.cell_of_block hSw.2.2 3; have q4 : w9.cell? ⟨qx, 4, none⟩ = some (.bool b4c) := Go.Joins.cell_of_block hSw.2.2 4; have q5 : w9.cell? ⟨qx, 5, none⟩ = some (.int .i64 a5) := Go.Joins.cell_of_block hSw.2.2 5; go_simp; (try simp)
  try simp only [Act.put, List.setIfInBounds_toArray, List.set_cons_zero, List.set_cons_succ]
  refine wpAnyH_ready (rs := [1]) (by kernel_rfl) (by simp) ?_
  refine AllReadyH.cons (o := ⟨some 35, _, _, _, _, none⟩) rfl (fun K hK => ?_) AllReadyH.nil
  go_simp
  go_wp2_with (go_at_call 11; refine (OC.out _ _ _ IU.out).mono ?_; rintro e v1 ⟨p2, c2, rfl, hc, hi, hb⟩)
  have Bv1 : Hid (Below w.heap.size w v1) := below_then BU.out hb
  have Iv1 : Hid (IsL v1 0 p1 M) := IU.out.below hb
  have Xv1 : Hid (v1.heap[w.heap.size]? = some (.cells #[.bool b4a, .bool b4b, .bool b4c] 25 (0, 0)) ∧ v1.heap[qp]? = some (.cells #[.int .i64 f, .int .i64 t] 29 (0, 0)) ∧ v1.heap[qx]? = some (.cells #[.int .i64 f, .int .i64 t, .bool b4a, .bool b4b, .bool b4c, .int .i64 a5] 31 (0, 0))) := ⟨(hb.block _ (blk_lt XU.out.1)).trans XU.out.1, (hb.block _ (blk_lt XU.out.2.1)).trans XU.out.2.1, (hb.block _ (blk_lt XU.out.2.2)).trans XU.out.2.2⟩
  have Jv1 : Hid (IsL v1 0 p2 M) := hi.weak (Nat.zero_le _)
  have GC : Hid (n ≤ c2) := hc
  clear hi hc
  clear hb hHeld BU IU XU
  refine hK.out _ _ Xv1.out (fun hHeld => ?_)
  clear hK K
  try simp only [Act.put, List.setIfInBounds_toArray, List.set_cons_zero, List.set_cons_succ]
  refine wpAnyH_ready (rs := [3]) (by kernel_rfl) (by simp) ?_
  refine AllReadyH.cons (o := ⟨some 37, _, _, _, _, none⟩) rfl (fun K hK => ?_) AllReadyH.nil
  go_simp
  go_wp2_with (go_at_call 12; refine (ONE.out _).mono ?_; rintro e v2 ⟨rfl, hb⟩)
  have Bv2 : Hid (Below w.heap.size w v2) := below_then Bv1.out hb
  have Iv2 : Hid (IsL v2 0 p1 M) := Iv1.out.below hb
  have Xv2 : Hid (v2.heap[w.heap.size]? = some (.cells #[.bool b4a, .bool b4b, .bool b4c] 25 (0, 0)) ∧ v2.heap[qp]? = some (.cells #[.int .i64 f, .int .i64 t] 29 (0, 0)) ∧ v2.heap[qx]? = some (.cells #[.int .i64 f, .int .i64 t, .bool b4a, .bool b4b, .bool b4c, .int .i64 a5] 31 (0, 0))) := ⟨(hb.block _ (blk_lt Xv1.out.1)).trans Xv1.out.1, (hb.block _ (blk_lt Xv1.out.2.1)).trans Xv1.out.2.1, (hb.block _ (blk_lt Xv1.out.2.2)).trans Xv1.out.2.2⟩
  have Jv2 : Hid (IsL v2 0 p2 M) := Jv1.out.below hb
  clear hb hHeld Bv1 Iv1 Xv1
  refine hK.out _ _ Xv2.out (fun hHeld => ?_)
  clear hK K
  try simp only [Act.put, List.setIfInBounds_toArray, List.set_cons_zero, List.set_cons_succ]
  refine wpAnyH_ready (rs := [4]) (by kernel_rfl) (by simp) ?_
  refine AllReadyH.cons (o := ⟨some 38, _, _, _, _, none⟩) rfl (fun K hK => ?_) AllReadyH.nil
  go_simp
  go_wp2_with (go_at_call 10; refine (C1.out _ _ _ GC.out Jv2.out).mono ?_; rintro e v3 ⟨p3, c3, rfl, _, hi, hb⟩)
  have Bv3 : Hid (Below w.heap.size w v3) := below_then Bv2.out hb
  have Iv3 : Hid (IsL v3 0 p1 M) := Iv2.out.below hb
  have Xv3 : Hid (v3.heap[w.heap.size]? = some (.cells #[.bool b4a, .bool b4b, .bool b4c] 25 (0, 0)) ∧ v3.heap[qp]? = some (.cells #[.int .i64 f, .int .i64 t] 29 (0, 0)) ∧ v3.heap[qx]? = some (.cells #[.int .i64 f, .int .i64 t, .bool b4a, .bool b4b, .bool b4c, .int .i64 a5] 31 (0, 0))) := ⟨(hb.block _ (blk_lt Xv2.out.1)).trans Xv2.out.1, (hb.block _ (blk_lt Xv2.out.2.1)).trans Xv2.out.2.1, (hb.block _ (blk_lt Xv2.out.2.2)).trans Xv2.out.2.2⟩
  have Ov3 : Hid (IsL v3 0 p3 M1) := hi
  clear hi GC Jv1 Jv2
  clear hb hHeld Bv2 Iv2 Xv2
  refine hK.out _ _ Xv3.out (fun hHeld => ?_)
  clear hK K
  try simp only [Act.put, List.setIfInBounds_toArray, List.set_cons_zero, List.set_cons_succ]
  refine wpAnyH_take (i := 5) (oi := ⟨some 33, _, _, _, _, none⟩) (v := ?_) rfl (by kernel_rfl) (by kernel_rfl) (by kernel_rfl) (fun _ _ _ h => h) (Or.inl ⟨by rfl, ?_⟩) (by assumption) ?_
  rotate_left
  · intro w hSw; (try dsimp only at hSw); go_simp; (try with_reducible rfl)
  try simp only [Act.put, List.setIfInBounds_toArray, List.set_cons_zero, List.set_cons_succ]
  refine wpAnyH_take (i := 6) (oi := ⟨some 39, _, _, _, _, none⟩) (v := ?_) rfl (by kernel_rfl) (by kernel_rfl) (by kernel_rfl) (fun _ _ _ h => h) (Or.inl ⟨by rfl, ?_⟩) (by assumption) ?_
  rotate_left
  · intro w hSw; (try dsimp only at hSw); go_simp; (try with_reducible rfl)
  try simp only [Act.put, List.setIfInBounds_toArray, List.set_cons_zero, List.set_cons_succ]
  refine wpAnyH_take (i := 7) (oi := ⟨some 40, _, _, _, _, none⟩) (v := ?_) rfl (by kernel_rfl) (by kernel_rfl) (by kernel_rfl) (fun _ _ _ h => h) (Or.inl ⟨by rfl, ?_⟩) (by assumption) ?_
  rotate_left
  · intro w hSw; (try dsimp only at hSw); go_simp; (try with_reducible rfl)
  try simp only [Act.put, List.setIfInBounds_toArray, List.set_cons_zero, List.set_cons_succ]
  refine wpAnyH_take (i := 8) (oi := ⟨some 16, _, _, _, _, none⟩) (v := ?_) rfl (by kernel_rfl) (by kernel_rfl) (by kernel_rfl) (fun _ _ _ h => h) (Or.inl ⟨by rfl, ?_⟩) (by assumption) ?_
  rotate_left
  · intro w hSw; (try dsimp only at hSw); go_simp; (try with_reducible rfl)
  try simp only [Act.put, List.setIfInBounds_toArray, List.set_cons_zero, List.set_cons_succ]
  refine wpAnyH_take (i := 9) (oi := ⟨some 17, _, _, _, _, none⟩) (v := ?_) rfl (by kernel_rfl) (by kernel_rfl) (by kernel_rfl) (fun _ _ _ h => h) (Or.inl ⟨by rfl, ?_⟩) (by assumption) ?_
  rotate_left
  · intro w hSw; (try dsimp only at hSw); go_simp; (try with_reducible rfl)
  try simp only [Act.put, List.setIfInBounds_toArray, List.set_cons_zero, List.set_cons_succ]
  clear hHeld
  refine wpAnyH_done (by kernel_rfl) ?_ _
  refine NoPanic.normal ?_
  by_cases w2 : a3 = 2
  · subst w2
    have e2 : ((2 : Int) == 2) = true := rfl
    have e3 : ((2 : Int) == 3) = false := rfl
    clear Ov3 C1 R1 D1 K1 C3 R3 D3 K3 ONE
    go_wp2_with fail
    refine wp_region_noPanic ?_
    refine wp_region_held_drew (S := fun c => c.heap[w.heap.size]? = some (.cells #[.bool b4a, .bool b4b, .bool b4c] 25 (0, 0)) ∧ c.heap[qp]? = some (.cells #[.int .i64 f, .int .i64 t] 29 (0, 0)) ∧ c.heap[qx]? = some (.cells #[.int .i64 f, .int .i64 t, .bool b4a, .bool b4b, .bool b4c, .int .i64 a5] 31 (0, 0))) (by kernel_rfl) ?_ (fun hHeld => ?_)
    · exact Xv3.out
    have BW : Hid (Below w.heap.size w v3.drew) := ⟨Bv3.out.os, Bv3.out.tape, Bv3.out.output, Bv3.out.size, Bv3.out.block⟩
    have IW : Hid (IsL v3.drew 0 p1 M) := Iv3.out
    have XW : Hid (v3.drew.heap[w.heap.size]? = some (.cells #[.bool b4a, .bool b4b, .bool b4c] 25 (0, 0)) ∧ v3.drew.heap[qp]? = some (.cells #[.int .i64 f, .int .i64 t] 29 (0, 0)) ∧ v3.drew.heap[qx]? = some (.cells #[.int .i64 f, .int .i64 t, .bool b4a, .bool b4b, .bool b4c, .int .i64 a5] 31 (0, 0))) := Xv3.out
    clear Bv3 Iv3 Xv3
    generalize v3.drew = W at BW IW XW hHeld ⊢
    refine wpAnyH_take (i := 0) (oi := ⟨some 44, _, _, _, _, none⟩) (v := ?_) rfl (by kernel_rfl) (by kernel_rfl) (by kernel_rfl) (fun _ _ _ h => h) (Or.inl ⟨by rfl, ?_⟩) (by assumption) ?_
    rotate_left
    · intro w hSw; (try dsimp only at hSw); go_simp; (try with_reducible rfl)
    try simp only [Act.put, List.setIfInBounds_toArray, List.set_cons_zero, List.set_cons_succ]
    refine wpAnyH_take (i := 2) (oi := ⟨some 46, _, _, _, _, none⟩) (v := .agg #[.int .i64 f, .int .i64 t]) rfl (by kernel_rfl) (by kernel_rfl) (by kernel_rfl) (fun _ _ _ h => h) (Or.inl ⟨by rfl, ?_⟩) (by assumption) ?_
    · intro w9 hSw; (try dsimp only at hSw); have q0 : w9.cell? ⟨qp, 0, none⟩ = some (.int .i64 f) := Go.Joins.cell_of_block hSw.2.1 0; have q1 : w9.cell? ⟨qp, 1, none⟩ = some (.int .i64 t) := Go.Joins.cell_of_block hSw.2.1 1; go_simp; (try simp)
    try simp only [Act.put, List.setIfInBounds_toArray, List.set_cons_zero, List.set_cons_succ]
    refine wpAnyH_ready (rs := [1]) (by kernel_rfl) (by simp) ?_
    refine AllReadyH.cons (o := ⟨some 45, _, _, _, _, none⟩) rfl (fun K hK => ?_) AllReadyH.nil
    go_simp
    go_wp2_with (go_at_call 11; refine (OC.out _ _ _ IW.out).mono ?_; rintro e y1 ⟨p4, c4, rfl, hc, hi, hb⟩)
    have By1 : Hid (Below w.heap.size w y1) := below_then BW.out hb
    have Iy1 : Hid (IsL y1 0 p1 M) := IW.out.below hb
    have Xy1 : Hid (y1.heap[w.heap.size]? = some (.cells #[.bool b4a, .bool b4b, .bool b4c] 25 (0, 0)) ∧ y1.heap[qp]? = some (.cells #[.int .i64 f, .int .i64 t] 29 (0, 0)) ∧ y1.heap[qx]? = some (.cells #[.int .i64 f, .int .i64 t, .bool b4a, .bool b4b, .bool b4c, .int .i64 a5] 31 (0, 0))) := ⟨(hb.block _ (blk_lt XW.out.1)).trans XW.out.1, (hb.block _ (blk_lt XW.out.2.1)).trans XW.out.2.1, (hb.block _ (blk_lt XW.out.2.2)).trans XW.out.2.2⟩
    have Jy1 : Hid (IsL y1 0 p4 M) := hi.weak (Nat.zero_le _)
    have GC : Hid (n ≤ c4) := hc
    clear hi hc
    clear hb hHeld BW IW XW
    refine hK.out _ _ Xy1.out (fun hHeld => ?_)
    clear hK K
    try simp only [Act.put, List.setIfInBounds_toArray, List.set_cons_zero, List.set_cons_succ]
    refine wpAnyH_ready (rs := [3]) (by kernel_rfl) (by simp) ?_
    refine AllReadyH.cons (o := ⟨some 47, _, _, _, _, none⟩) rfl (fun K hK => ?_) AllReadyH.nil
    go_simp
    go_wp2_with (go_at_call 13; refine (C2.out _ _ _ GC.out Jy1.out).mono ?_; rintro e y2 ⟨p5, c5, rfl, _, hi, hb⟩)
    have By2 : Hid (Below w.heap.size w y2) := below_then By1.out hb
    have Iy2 : Hid (IsL y2 0 p1 M) := Iy1.out.below hb
    have Xy2 : Hid (y2.heap[w.heap.size]? = some (.cells #[.bool b4a, .bool b4b, .bool b4c] 25 (0, 0)) ∧ y2.heap[qp]? = some (.cells #[.int .i64 f, .int .i64 t] 29 (0, 0)) ∧ y2.heap[qx]? = some (.cells #[.int .i64 f, .int .i64 t, .bool b4a, .bool b4b, .bool b4c, .int .i64 a5] 31 (0, 0))) := ⟨(hb.block _ (blk_lt Xy1.out.1)).trans Xy1.out.1, (hb.block _ (blk_lt Xy1.out.2.1)).trans Xy1.out.2.1, (hb.block _ (blk_lt Xy1.out.2.2)).trans Xy1.out.2.2⟩
    have Oy2 : Hid (IsL y2 0 p5 M2) := hi
    clear hi GC Jy1
    clear hb hHeld By1 Iy1 Xy1
    refine hK.out _ _ Xy2.out (fun hHeld => ?_)
    clear hK K
    try simp only [Act.put, List.setIfInBounds_toArray, List.set_cons_zero, List.set_cons_succ]
    refine wpAnyH_take (i := 4) (oi := ⟨some 43, _, _, _, _, none⟩) (v := ?_) rfl (by kernel_rfl) (by kernel_rfl) (by kernel_rfl) (fun _ _ _ h => h) (Or.inl ⟨by rfl, ?_⟩) (by assumption) ?_
    rotate_left
    · intro w hSw; (try dsimp only at hSw); go_simp; (try with_reducible rfl)
    try simp only [Act.put, List.setIfInBounds_toArray, List.set_cons_zero, List.set_cons_succ]
    refine wpAnyH_take (i := 5) (oi := ⟨some 48, _, _, _, _, none⟩) (v := ?_) rfl (by kernel_rfl) (by kernel_rfl) (by kernel_rfl) (fun _ _ _ h => h) (Or.inl ⟨by rfl, ?_⟩) (by assumption) ?_
    rotate_left
    · intro w hSw; (try dsimp only at hSw); go_simp; (try with_reducible rfl)
    try simp only [Act.put, List.setIfInBounds_toArray, List.set_cons_zero, List.set_cons_succ]
    refine wpAnyH_take (i := 6) (oi := ⟨some 49, _, _, _, _, none⟩) (v := ?_) rfl (by kernel_rfl) (by kernel_rfl) (by kernel_rfl) (fun _ _ _ h => h) (Or.inl ⟨by rfl, ?_⟩) (by assumption) ?_
    rotate_left
    · intro w hSw; (try dsimp only at hSw); go_simp; (try with_reducible rfl)
    try simp only [Act.put, List.setIfInBounds_toArray, List.set_cons_zero, List.set_cons_succ]
    refine wpAnyH_take (i := 7) (oi := ⟨some 16, _, _, _, _, none⟩) (v := ?_) rfl (by kernel_rfl) (by kernel_rfl) (by kernel_rfl) (fun _ _ _ h => h) (Or.inl ⟨by rfl, ?_⟩) (by assumption) ?_
    rotate_left
    · intro w hSw; (try dsimp only at hSw); go_simp; (try with_reducible rfl)
    try simp only [Act.put, List.setIfInBounds_toArray, List.set_cons_zero, List.set_cons_succ]
    refine wpAnyH_take (i := 8) (oi := ⟨some 17, _, _, _, _, none⟩) (v := ?_) rfl (by kernel_rfl) (by kernel_rfl) (by kernel_rfl) (fun _ _ _ h => h) (Or.inl ⟨by rfl, ?_⟩) (by assumption) ?_
    rotate_left
    · intro w hSw; (try dsimp only at hSw); go_simp; (try with_reducible rfl)
    try simp only [Act.put, List.setIfInBounds_toArray, List.set_cons_zero, List.set_cons_succ]
    clear hHeld
    refine wpAnyH_done (by kernel_rfl) ?_ _
    refine NoPanic.normal ?_
    have Lk : M2.length ≤ 64 := K2.out.1
    obtain ⟨nk, hnk⟩ : ∃ x, M2.length = x := ⟨_, rfl⟩
    have HK : Hid (M2.length = nk) := hnk
    rw [hnk] at Lk ⊢
    clear hnk
    have LkI : (nk : Int) ≤ 64 := by omega
    have x0 : y2.cell? ⟨qx, 0, none⟩ = some (.int .i64 f) := Go.Joins.cell_of_block Xy2.out.2.2 0
    have x1 : y2.cell? ⟨qx, 1, none⟩ = some (.int .i64 t) := Go.Joins.cell_of_block Xy2.out.2.2 1
    have x2 : y2.cell? ⟨qx, 2, none⟩ = some (.bool b4a) := Go.Joins.cell_of_block Xy2.out.2.2 2
    have x3 : y2.cell? ⟨qx, 3, none⟩ = some (.bool b4b) := Go.Joins.cell_of_block Xy2.out.2.2 3
    have x4 : y2.cell? ⟨qx, 4, none⟩ = some (.bool b4c) := Go.Joins.cell_of_block Xy2.out.2.2 4
    have x5 : y2.cell? ⟨qx, 5, none⟩ = some (.int .i64 a5) := Go.Joins.cell_of_block Xy2.out.2.2 5
    have lx : qx < y2.heap.size := blk_lt Xy2.out.2.2
    go_wp2_with fail
    refine (R2.out _ _ _ Iy2.out).mono ?_
    rintro e z1 ⟨rfl, hb⟩
    have Bz1 : Hid (Below w.heap.size w z1) := below_then By2.out hb
    have Iz1 : Hid (IsL z1 0 p1 M) := Iy2.out.below hb
    have Xz1 : Hid (z1.heap[w.heap.size]? = some (.cells #[.bool b4a, .bool b4b, .bool b4c] 25 (0, 0)) ∧ z1.heap[qp]? = some (.cells #[.int .i64 f, .int .i64 t] 29 (0, 0)) ∧ z1.heap[qx]? = some (.cells #[.int .i64 f, .int .i64 t, .bool b4a, .bool b4b, .bool b4c, .int .i64 a5] 31 (0, 0))) := ⟨(hb.block _ (blk_lt Xy2.out.1)).trans Xy2.out.1, (hb.block _ (blk_lt Xy2.out.2.1)).trans Xy2.out.2.1, (hb.block _ (blk_lt Xy2.out.2.2)).trans Xy2.out.2.2⟩
    have Oz1 : Hid (IsL z1 0 p5 M2) := Oy2.out.below hb
    clear hb x0 x1 x2 x3 x4 x5 lx By2 Iy2 Xy2 Oy2
    go_wp2_with fail
    refine (AWH.out _).mono ?_
    rintro e z2 ⟨rfl, hb⟩
    have Bz2 : Hid (Below w.heap.size w z2) := below_then Bz1.out hb
    have Iz2 : Hid (IsL z2 0 p1 M) := Iz1.out.below hb
    have Xz2 : Hid (z2.heap[w.heap.size]? = some (.cells #[.bool b4a, .bool b4b, .bool b4c] 25 (0, 0)) ∧ z2.heap[qp]? = some (.cells #[.int .i64 f, .int .i64 t] 29 (0, 0)) ∧ z2.heap[qx]? = some (.cells #[.int .i64 f, .int .i64 t, .bool b4a, .bool b4b, .bool b4c, .int .i64 a5] 31 (0, 0))) := ⟨(hb.block _ (blk_lt Xz1.out.1)).trans Xz1.out.1, (hb.block _ (blk_lt Xz1.out.2.1)).trans Xz1.out.2.1, (hb.block _ (blk_lt Xz1.out.2.2)).trans Xz1.out.2.2⟩
    have Oz2 : Hid (IsL z2 0 p5 M2) := Oz1.out.below hb
    clear hb Bz1 Iz1 Xz1 Oz1
    rcases Decidable.em (¬ E2 = 0) with e0 | e0
    · have ed : (E2 == 0) = false := by simp [e0]
      have k0 := K2.out.2.2 e0
      rw [HK.out] at k0
      subst k0
      go_wp2_with fail
      go_ret
      exact ⟨by first | rfl | simp, Bz2.out⟩
    replace e0 := Decidable.not_not.1 e0
    have VM := K2.out.2.1 e0
    have DD : Hid _ := D2.out
    rw [VM, HK.out] at DD
    subst e0
    have x0 : z2.cell? ⟨qx, 0, none⟩ = some (.int .i64 f) := Go.Joins.cell_of_block Xz2.out.2.2 0
    have x1 : z2.cell? ⟨qx, 1, none⟩ = some (.int .i64 t) := Go.Joins.cell_of_block Xz2.out.2.2 1
    have x2 : z2.cell? ⟨qx, 2, none⟩ = some (.bool b4a) := Go.Joins.cell_of_block Xz2.out.2.2 2
    have x3 : z2.cell? ⟨qx, 3, none⟩ = some (.bool b4b) := Go.Joins.cell_of_block Xz2.out.2.2 3
    have x4 : z2.cell? ⟨qx, 4, none⟩ = some (.bool b4c) := Go.Joins.cell_of_block Xz2.out.2.2 4
    have x5 : z2.cell? ⟨qx, 5, none⟩ = some (.int .i64 a5) := Go.Joins.cell_of_block Xz2.out.2.2 5
    have lx : qx < z2.heap.size := blk_lt Xz2.out.2.2
    clear VM
    go_wp2_with fail
    refine (DD.out _ _ _ Iz2.out).mono ?_
    rintro e z3 ⟨p9, c9, rfl, hi, hb⟩
    have O9 : Hid (IsL z3 0 p9 M2) := hi.weak (Nat.zero_le _)
    have O8 : Hid (IsL z3 0 p5 M2) := Oz2.out.below hb
    have B9 : Hid (Below w.heap.size w z3) := below_then Bz2.out hb
    have SC : Hid (∀ c c', Calls Try.prog 17 #[.slice p5 nk c, .slice p9 nk c'] z3 fun e w' => e = .returned (.bool true) ∧ Below z3.heap.size z3 w') := fun c c' => (by have q := same_any p5 p9 c c' M2 (by rw [HK.out]; omega) z3 O8.out O9.out; rw [HK.out] at q; exact q)
    clear hi hb Bz2 Iz2 Xz2 Oz2 x0 x1 x2 x3 x4 x5 lx
    go_wp2_with fail
    refine (SC.out _ _).mono ?_
    rintro e z4 ⟨rfl, hb⟩
    have B10 : Hid (Below w.heap.size w z4) := below_then B9.out hb
    clear hb
    go_wp2_with fail
    go_ret
    exact ⟨by first | rfl | simp, B10.out⟩
  by_cases w3 : a3 = 3
  · subst w3
    have e2 : ((3 : Int) == 2) = false := rfl
    have e3 : ((3 : Int) == 3) = true := rfl
    clear Ov3 C1 R1 D1 K1 C2 R2 D2 K2 ONE
    go_wp2_with fail
    refine wp_region_noPanic ?_
    refine wp_region_held_drew (S := fun c => c.heap[w.heap.size]? = some (.cells #[.bool b4a, .bool b4b, .bool b4c] 25 (0, 0)) ∧ c.heap[qp]? = some (.cells #[.int .i64 f, .int .i64 t] 29 (0, 0)) ∧ c.heap[qx]? = some (.cells #[.int .i64 f, .int .i64 t, .bool b4a, .bool b4b, .bool b4c, .int .i64 a5] 31 (0, 0))) (by kernel_rfl) ?_ (fun hHeld => ?_)
    · exact Xv3.out
    have BW : Hid (Below w.heap.size w v3.drew) := ⟨Bv3.out.os, Bv3.out.tape, Bv3.out.output, Bv3.out.size, Bv3.out.block⟩
    have IW : Hid (IsL v3.drew 0 p1 M) := Iv3.out
    have XW : Hid (v3.drew.heap[w.heap.size]? = some (.cells #[.bool b4a, .bool b4b, .bool b4c] 25 (0, 0)) ∧ v3.drew.heap[qp]? = some (.cells #[.int .i64 f, .int .i64 t] 29 (0, 0)) ∧ v3.drew.heap[qx]? = some (.cells #[.int .i64 f, .int .i64 t, .bool b4a, .bool b4b, .bool b4c, .int .i64 a5] 31 (0, 0))) := Xv3.out
    clear Bv3 Iv3 Xv3
    generalize v3.drew = W at BW IW XW hHeld ⊢
    refine wpAnyH_take (i := 0) (oi := ⟨some 53, _, _, _, _, none⟩) (v := ?_) rfl (by kernel_rfl) (by kernel_rfl) (by kernel_rfl) (fun _ _ _ h => h) (Or.inl ⟨by rfl, ?_⟩) (by assumption) ?_
    rotate_left
    · intro w hSw; (try dsimp only at hSw); go_simp; (try with_reducible rfl)
    try simp only [Act.put, List.setIfInBounds_toArray, List.set_cons_zero, List.set_cons_succ]
    refine wpAnyH_take (i := 2) (oi := ⟨some 55, _, _, _, _, none⟩) (v := .agg #[.int .i64 f, .int .i64 t]) rfl (by kernel_rfl) (by kernel_rfl) (by kernel_rfl) (fun _ _ _ h => h) (Or.inl ⟨by rfl, ?_⟩) (by assumption) ?_
    · intro w9 hSw; (try dsimp only at hSw); have q0 : w9.cell? ⟨qp, 0, none⟩ = some (.int .i64 f) := Go.Joins.cell_of_block hSw.2.1 0; have q1 : w9.cell? ⟨qp, 1, none⟩ = some (.int .i64 t) := Go.Joins.cell_of_block hSw.2.1 1; go_simp; (try simp)
    try simp only [Act.put, List.setIfInBounds_toArray, List.set_cons_zero, List.set_cons_succ]
    refine wpAnyH_take (i := 3) (oi := ⟨some 56, _, _, _, _, none⟩) (v := .agg #[.bool b4a, .bool b4b, .bool b4c]) rfl (by kernel_rfl) (by kernel_rfl) (by kernel_rfl) (fun _ _ _ h => h) (Or.inl ⟨by rfl, ?_⟩) (by assumption) ?_
    · intro w9 hSw; (try dsimp only at hSw); have q0 : w9.cell? ⟨w.heap.size, 0, none⟩ = some (.bool b4a) := Go.Joins.cell_of_block hSw.1 0; have q1 : w9.cell? ⟨w.heap.size, 1, none⟩ = some (.bool b4b) := Go.Joins.cell_of_block hSw.1 1; have q2 : w9.cell? ⟨w.heap.size, 2, none⟩ = some (.bool b4c) := Go.Joins.cell_of_block hSw.1 2; go_simp; (try simp)
    try simp only [Act.put, List.setIfInBounds_toArray, List.set_cons_zero, List.set_cons_succ]
    refine wpAnyH_ready (rs := [1]) (by kernel_rfl) (by simp) ?_
    refine AllReadyH.cons (o := ⟨some 54, _, _, _, _, none⟩) rfl (fun K hK => ?_) AllReadyH.nil
    go_simp
    go_wp2_with (go_at_call 11; refine (OC.out _ _ _ IW.out).mono ?_; rintro e y1 ⟨p4, c4, rfl, hc, hi, hb⟩)
    have By1 : Hid (Below w.heap.size w y1) := below_then BW.out hb
    have Iy1 : Hid (IsL y1 0 p1 M) := IW.out.below hb
    have Xy1 : Hid (y1.heap[w.heap.size]? = some (.cells #[.bool b4a, .bool b4b, .bool b4c] 25 (0, 0)) ∧ y1.heap[qp]? = some (.cells #[.int .i64 f, .int .i64 t] 29 (0, 0)) ∧ y1.heap[qx]? = some (.cells #[.int .i64 f, .int .i64 t, .bool b4a, .bool b4b, .bool b4c, .int .i64 a5] 31 (0, 0))) := ⟨(hb.block _ (blk_lt XW.out.1)).trans XW.out.1, (hb.block _ (blk_lt XW.out.2.1)).trans XW.out.2.1, (hb.block _ (blk_lt XW.out.2.2)).trans XW.out.2.2⟩
    have Jy1 : Hid (IsL y1 0 p4 M) := hi.weak (Nat.zero_le _)
    have GC : Hid (n ≤ c4) := hc
    clear hi hc
    clear hb hHeld BW IW XW
    refine hK.out _ _ Xy1.out (fun hHeld => ?_)
    clear hK K
    try simp only [Act.put, List.setIfInBounds_toArray, List.set_cons_zero, List.set_cons_succ]
    refine wpAnyH_ready (rs := [4]) (by kernel_rfl) (by simp) ?_
    refine AllReadyH.cons (o := ⟨some 57, _, _, _, _, none⟩) rfl (fun K hK => ?_) AllReadyH.nil
    go_simp
    go_wp2_with (go_at_call 14; refine (C3.out _ _ _ GC.out Jy1.out).mono ?_; rintro e y2 ⟨p5, c5, rfl, _, hi, hb⟩)
    have By2 : Hid (Below w.heap.size w y2) := below_then By1.out hb
    have Iy2 : Hid (IsL y2 0 p1 M) := Iy1.out.below hb
    have Xy2 : Hid (y2.heap[w.heap.size]? = some (.cells #[.bool b4a, .bool b4b, .bool b4c] 25 (0, 0)) ∧ y2.heap[qp]? = some (.cells #[.int .i64 f, .int .i64 t] 29 (0, 0)) ∧ y2.heap[qx]? = some (.cells #[.int .i64 f, .int .i64 t, .bool b4a, .bool b4b, .bool b4c, .int .i64 a5] 31 (0, 0))) := ⟨(hb.block _ (blk_lt Xy1.out.1)).trans Xy1.out.1, (hb.block _ (blk_lt Xy1.out.2.1)).trans Xy1.out.2.1, (hb.block _ (blk_lt Xy1.out.2.2)).trans Xy1.out.2.2⟩
    have Oy2 : Hid (IsL y2 0 p5 M3) := hi
    clear hi GC Jy1
    clear hb hHeld By1 Iy1 Xy1
    refine hK.out _ _ Xy2.out (fun hHeld => ?_)
    clear hK K
    try simp only [Act.put, List.setIfInBounds_toArray, List.set_cons_zero, List.set_cons_succ]
    refine wpAnyH_take (i := 5) (oi := ⟨some 52, _, _, _, _, none⟩) (v := ?_) rfl (by kernel_rfl) (by kernel_rfl) (by kernel_rfl) (fun _ _ _ h => h) (Or.inl ⟨by rfl, ?_⟩) (by assumption) ?_
    rotate_left
    · intro w hSw; (try dsimp only at hSw); go_simp; (try with_reducible rfl)
    try simp only [Act.put, List.setIfInBounds_toArray, List.set_cons_zero, List.set_cons_succ]
    refine wpAnyH_take (i := 6) (oi := ⟨some 58, _, _, _, _, none⟩) (v := ?_) rfl (by kernel_rfl) (by kernel_rfl) (by kernel_rfl) (fun _ _ _ h => h) (Or.inl ⟨by rfl, ?_⟩) (by assumption) ?_
    rotate_left
    · intro w hSw; (try dsimp only at hSw); go_simp; (try with_reducible rfl)
    try simp only [Act.put, List.setIfInBounds_toArray, List.set_cons_zero, List.set_cons_succ]
    refine wpAnyH_take (i := 7) (oi := ⟨some 59, _, _, _, _, none⟩) (v := ?_) rfl (by kernel_rfl) (by kernel_rfl) (by kernel_rfl) (fun _ _ _ h => h) (Or.inl ⟨by rfl, ?_⟩) (by assumption) ?_
    rotate_left
    · intro w hSw; (try dsimp only at hSw); go_simp; (try with_reducible rfl)
    try simp only [Act.put, List.setIfInBounds_toArray, List.set_cons_zero, List.set_cons_succ]
    refine wpAnyH_take (i := 8) (oi := ⟨some 16, _, _, _, _, none⟩) (v := ?_) rfl (by kernel_rfl) (by kernel_rfl) (by kernel_rfl) (fun _ _ _ h => h) (Or.inl ⟨by rfl, ?_⟩) (by assumption) ?_
    rotate_left
    · intro w hSw; (try dsimp only at hSw); go_simp; (try with_reducible rfl)
    try simp only [Act.put, List.setIfInBounds_toArray, List.set_cons_zero, List.set_cons_succ]
    refine wpAnyH_take (i := 9) (oi := ⟨some 17, _, _, _, _, none⟩) (v := ?_) rfl (by kernel_rfl) (by kernel_rfl) (by kernel_rfl) (fun _ _ _ h => h) (Or.inl ⟨by rfl, ?_⟩) (by assumption) ?_
    rotate_left
    · intro w hSw; (try dsimp only at hSw); go_simp; (try with_reducible rfl)
    try simp only [Act.put, List.setIfInBounds_toArray, List.set_cons_zero, List.set_cons_succ]
    clear hHeld
    refine wpAnyH_done (by kernel_rfl) ?_ _
    refine NoPanic.normal ?_
    have Lk : M3.length ≤ 64 := K3.out.1
    obtain ⟨nk, hnk⟩ : ∃ x, M3.length = x := ⟨_, rfl⟩
    have HK : Hid (M3.length = nk) := hnk
    rw [hnk] at Lk ⊢
    clear hnk
    have LkI : (nk : Int) ≤ 64 := by omega
    have x0 : y2.cell? ⟨qx, 0, none⟩ = some (.int .i64 f) := Go.Joins.cell_of_block Xy2.out.2.2 0
    have x1 : y2.cell? ⟨qx, 1, none⟩ = some (.int .i64 t) := Go.Joins.cell_of_block Xy2.out.2.2 1
    have x2 : y2.cell? ⟨qx, 2, none⟩ = some (.bool b4a) := Go.Joins.cell_of_block Xy2.out.2.2 2
    have x3 : y2.cell? ⟨qx, 3, none⟩ = some (.bool b4b) := Go.Joins.cell_of_block Xy2.out.2.2 3
    have x4 : y2.cell? ⟨qx, 4, none⟩ = some (.bool b4c) := Go.Joins.cell_of_block Xy2.out.2.2 4
    have x5 : y2.cell? ⟨qx, 5, none⟩ = some (.int .i64 a5) := Go.Joins.cell_of_block Xy2.out.2.2 5
    have lx : qx < y2.heap.size := blk_lt Xy2.out.2.2
    go_wp2_with fail
    refine (R3.out _ _ _ Iy2.out).mono ?_
    rintro e z1 ⟨rfl, hb⟩
    have Bz1 : Hid (Below w.heap.size w z1) := below_then By2.out hb
    have Iz1 : Hid (IsL z1 0 p1 M) := Iy2.out.below hb
    have Xz1 : Hid (z1.heap[w.heap.size]? = some (.cells #[.bool b4a, .bool b4b, .bool b4c] 25 (0, 0)) ∧ z1.heap[qp]? = some (.cells #[.int .i64 f, .int .i64 t] 29 (0, 0)) ∧ z1.heap[qx]? = some (.cells #[.int .i64 f, .int .i64 t, .bool b4a, .bool b4b, .bool b4c, .int .i64 a5] 31 (0, 0))) := ⟨(hb.block _ (blk_lt Xy2.out.1)).trans Xy2.out.1, (hb.block _ (blk_lt Xy2.out.2.1)).trans Xy2.out.2.1, (hb.block _ (blk_lt Xy2.out.2.2)).trans Xy2.out.2.2⟩
    have Oz1 : Hid (IsL z1 0 p5 M3) := Oy2.out.below hb
    clear hb x0 x1 x2 x3 x4 x5 lx By2 Iy2 Xy2 Oy2
    go_wp2_with fail
    refine (AWH.out _).mono ?_
    rintro e z2 ⟨rfl, hb⟩
    have Bz2 : Hid (Below w.heap.size w z2) := below_then Bz1.out hb
    have Iz2 : Hid (IsL z2 0 p1 M) := Iz1.out.below hb
    have Xz2 : Hid (z2.heap[w.heap.size]? = some (.cells #[.bool b4a, .bool b4b, .bool b4c] 25 (0, 0)) ∧ z2.heap[qp]? = some (.cells #[.int .i64 f, .int .i64 t] 29 (0, 0)) ∧ z2.heap[qx]? = some (.cells #[.int .i64 f, .int .i64 t, .bool b4a, .bool b4b, .bool b4c, .int .i64 a5] 31 (0, 0))) := ⟨(hb.block _ (blk_lt Xz1.out.1)).trans Xz1.out.1, (hb.block _ (blk_lt Xz1.out.2.1)).trans Xz1.out.2.1, (hb.block _ (blk_lt Xz1.out.2.2)).trans Xz1.out.2.2⟩
    have Oz2 : Hid (IsL z2 0 p5 M3) := Oz1.out.below hb
    clear hb Bz1 Iz1 Xz1 Oz1
    rcases Decidable.em (¬ E3 = 0) with e0 | e0
    · have ed : (E3 == 0) = false := by simp [e0]
      have k0 := K3.out.2.2 e0
      rw [HK.out] at k0
      subst k0
      go_wp2_with fail
      go_ret
      exact ⟨by first | rfl | simp, Bz2.out⟩
    replace e0 := Decidable.not_not.1 e0
    have VM := K3.out.2.1 e0
    have DD : Hid _ := D3.out
    rw [VM, HK.out] at DD
    subst e0
    have x0 : z2.cell? ⟨qx, 0, none⟩ = some (.int .i64 f) := Go.Joins.cell_of_block Xz2.out.2.2 0
    have x1 : z2.cell? ⟨qx, 1, none⟩ = some (.int .i64 t) := Go.Joins.cell_of_block Xz2.out.2.2 1
    have x2 : z2.cell? ⟨qx, 2, none⟩ = some (.bool b4a) := Go.Joins.cell_of_block Xz2.out.2.2 2
    have x3 : z2.cell? ⟨qx, 3, none⟩ = some (.bool b4b) := Go.Joins.cell_of_block Xz2.out.2.2 3
    have x4 : z2.cell? ⟨qx, 4, none⟩ = some (.bool b4c) := Go.Joins.cell_of_block Xz2.out.2.2 4
    have x5 : z2.cell? ⟨qx, 5, none⟩ = some (.int .i64 a5) := Go.Joins.cell_of_block Xz2.out.2.2 5
    have lx : qx < z2.heap.size := blk_lt Xz2.out.2.2
    clear VM
    go_wp2_with fail
    refine (DD.out _ _ _ Iz2.out).mono ?_
    rintro e z3 ⟨p9, c9, rfl, hi, hb⟩
    have O9 : Hid (IsL z3 0 p9 M3) := hi.weak (Nat.zero_le _)
    have O8 : Hid (IsL z3 0 p5 M3) := Oz2.out.below hb
    have B9 : Hid (Below w.heap.size w z3) := below_then Bz2.out hb
    have SC : Hid (∀ c c', Calls Try.prog 17 #[.slice p5 nk c, .slice p9 nk c'] z3 fun e w' => e = .returned (.bool true) ∧ Below z3.heap.size z3 w') := fun c c' => (by have q := same_any p5 p9 c c' M3 (by rw [HK.out]; omega) z3 O8.out O9.out; rw [HK.out] at q; exact q)
    clear hi hb Bz2 Iz2 Xz2 Oz2 x0 x1 x2 x3 x4 x5 lx
    go_wp2_with fail
    refine (SC.out _ _).mono ?_
    rintro e z4 ⟨rfl, hb⟩
    have B10 : Hid (Below w.heap.size w z4) := below_then B9.out hb
    clear hb
    go_wp2_with fail
    go_ret
    exact ⟨by first | rfl | simp, B10.out⟩
  have e2 : (a3 == 2) = false := by simp [w2]
  have e3 : (a3 == 3) = false := by simp [w3]
  have e4 : (a3 != 2) = true := by simp [w2]
  have e5 : (a3 != 3) = true := by simp [w3]
  clear C2 R2 D2 K2 C3 R3 D3 K3 ONE
  have Lk : M1.length ≤ 64 := K1.out.1
  obtain ⟨nk, hnk⟩ : ∃ x, M1.length = x := ⟨_, rfl⟩
  have HK : Hid (M1.length = nk) := hnk
  rw [hnk] at Lk ⊢
  clear hnk
  have LkI : (nk : Int) ≤ 64 := by omega
  have x0 : v3.cell? ⟨qx, 0, none⟩ = some (.int .i64 f) := Go.Joins.cell_of_block Xv3.out.2.2 0
  have x1 : v3.cell? ⟨qx, 1, none⟩ = some (.int .i64 t) := Go.Joins.cell_of_block Xv3.out.2.2 1
  have x2 : v3.cell? ⟨qx, 2, none⟩ = some (.bool b4a) := Go.Joins.cell_of_block Xv3.out.2.2 2
  have x3 : v3.cell? ⟨qx, 3, none⟩ = some (.bool b4b) := Go.Joins.cell_of_block Xv3.out.2.2 3
  have x4 : v3.cell? ⟨qx, 4, none⟩ = some (.bool b4c) := Go.Joins.cell_of_block Xv3.out.2.2 4
  have x5 : v3.cell? ⟨qx, 5, none⟩ = some (.int .i64 a5) := Go.Joins.cell_of_block Xv3.out.2.2 5
  have lx : qx < v3.heap.size := blk_lt Xv3.out.2.2
  go_wp2_with fail
  refine (R1.out _ _ _ Iv3.out).mono ?_
  rintro e z1 ⟨rfl, hb⟩
  have Bz1 : Hid (Below w.heap.size w z1) := below_then Bv3.out hb
  have Iz1 : Hid (IsL z1 0 p1 M) := Iv3.out.below hb
  have Xz1 : Hid (z1.heap[w.heap.size]? = some (.cells #[.bool b4a, .bool b4b, .bool b4c] 25 (0, 0)) ∧ z1.heap[qp]? = some (.cells #[.int .i64 f, .int .i64 t] 29 (0, 0)) ∧ z1.heap[qx]? = some (.cells #[.int .i64 f, .int .i64 t, .bool b4a, .bool b4b, .bool b4c, .int .i64 a5] 31 (0, 0))) := ⟨(hb.block _ (blk_lt Xv3.out.1)).trans Xv3.out.1, (hb.block _ (blk_lt Xv3.out.2.1)).trans Xv3.out.2.1, (hb.block _ (blk_lt Xv3.out.2.2)).trans Xv3.out.2.2⟩
  have Oz1 : Hid (IsL z1 0 p3 M1) := Ov3.out.below hb
  clear hb x0 x1 x2 x3 x4 x5 lx Bv3 Iv3 Xv3 Ov3
  go_wp2_with fail
  refine (AWH.out _).mono ?_
  rintro e z2 ⟨rfl, hb⟩
  have Bz2 : Hid (Below w.heap.size w z2) := below_then Bz1.out hb
  have Iz2 : Hid (IsL z2 0 p1 M) := Iz1.out.below hb
  have Xz2 : Hid (z2.heap[w.heap.size]? = some (.cells #[.bool b4a, .bool b4b, .bool b4c] 25 (0, 0)) ∧ z2.heap[qp]? = some (.cells #[.int .i64 f, .int .i64 t] 29 (0, 0)) ∧ z2.heap[qx]? = some (.cells #[.int .i64 f, .int .i64 t, .bool b4a, .bool b4b, .bool b4c, .int .i64 a5] 31 (0, 0))) := ⟨(hb.block _ (blk_lt Xz1.out.1)).trans Xz1.out.1, (hb.block _ (blk_lt Xz1.out.2.1)).trans Xz1.out.2.1, (hb.block _ (blk_lt Xz1.out.2.2)).trans Xz1.out.2.2⟩
  have Oz2 : Hid (IsL z2 0 p3 M1) := Oz1.out.below hb
  clear hb Bz1 Iz1 Xz1 Oz1
  rcases Decidable.em (¬ E1 = 0) with e0 | e0
  · have ed : (E1 == 0) = false := by simp [e0]
    have k0 := K1.out.2.2 e0
    rw [HK.out] at k0
    subst k0
    go_wp2_with fail
    go_ret
    exact ⟨by first | rfl | simp, Bz2.out⟩
  replace e0 := Decidable.not_not.1 e0
  have VM := K1.out.2.1 e0
  have DD : Hid _ := D1.out
  rw [VM, HK.out] at DD
  subst e0
  have x0 : z2.cell? ⟨qx, 0, none⟩ = some (.int .i64 f) := Go.Joins.cell_of_block Xz2.out.2.2 0
  have x1 : z2.cell? ⟨qx, 1, none⟩ = some (.int .i64 t) := Go.Joins.cell_of_block Xz2.out.2.2 1
  have x2 : z2.cell? ⟨qx, 2, none⟩ = some (.bool b4a) := Go.Joins.cell_of_block Xz2.out.2.2 2
  have x3 : z2.cell? ⟨qx, 3, none⟩ = some (.bool b4b) := Go.Joins.cell_of_block Xz2.out.2.2 3
  have x4 : z2.cell? ⟨qx, 4, none⟩ = some (.bool b4c) := Go.Joins.cell_of_block Xz2.out.2.2 4
  have x5 : z2.cell? ⟨qx, 5, none⟩ = some (.int .i64 a5) := Go.Joins.cell_of_block Xz2.out.2.2 5
  have lx : qx < z2.heap.size := blk_lt Xz2.out.2.2
  clear VM
  go_wp2_with fail
  refine (DD.out _ _ _ Iz2.out).mono ?_
  rintro e z3 ⟨p9, c9, rfl, hi, hb⟩
  have O9 : Hid (IsL z3 0 p9 M1) := hi.weak (Nat.zero_le _)
  have O8 : Hid (IsL z3 0 p3 M1) := Oz2.out.below hb
  have B9 : Hid (Below w.heap.size w z3) := below_then Bz2.out hb
  have SC : Hid (∀ c c', Calls Try.prog 17 #[.slice p3 nk c, .slice p9 nk c'] z3 fun e w' => e = .returned (.bool true) ∧ Below z3.heap.size z3 w') := fun c c' => (by have q := same_any p3 p9 c c' M1 (by rw [HK.out]; omega) z3 O8.out O9.out; rw [HK.out] at q; exact q)
  clear hi hb Bz2 Iz2 Xz2 Oz2 x0 x1 x2 x3 x4 x5 lx
  go_wp2_with fail
  refine (SC.out _ _).mono ?_
  rintro e z4 ⟨rfl, hb⟩
  have B10 : Hid (Below w.heap.size w z4) := below_then B9.out hb
  clear hb
  go_wp2_with fail
  go_ret
  exact ⟨by first | rfl | simp, B10.out⟩

theorem own : ownKnob Try.prog.godebug = none := by kernel_rfl
theorem laidOut : laidOutB Try.prog = true := by kernel_rfl
set_option maxRecDepth 100000 in
theorem lifted (os : Os) (started : os.Started) (H : Type) (enc : TypeId × Value → H) :
    ReturnsInHanded {} Try.checked os 3 .any (Rows.regionChangesSpec.pre6 enc Try.prog Try.f3 Rows.regionChangesRow.domain false) (Rows.regionChangesSpec.post enc Try.prog Try.f3 false true false false) := by
  refine returnsInHanded_of_change (C := Try.checked) own started (by kernel_rfl) Try.func3
    (ChangeSpec.witness6 (enc := enc) (C := Try.checked) false ⟨#[], #[.slice none 0 0, .int .i64 0, .int .i64 0, .int .i64 0, .agg #[.bool false, .bool false, .bool false], .int .i64 0], []⟩ 8 (by kernel_rfl) (by kernel_rfl) (by kernel_rfl) (by kernel_rfl)) ?_
  intro W base args ds gs before hval0 hW hcnd _
  have hval : ∀ (j : Nat) t v, Try.f3.params[j]? = some t → args[j]? = some v → Value.okWide Try.prog W .any base t v := hval0
  have hW' := hW
  obtain ⟨p, q, hA0, hV, hbef, hfz, hnd⟩ := hW
  have hA : DataW.TrodAll enc Try.prog W 0 (fun _ => true) true Try.f3.params.toList args.toList ds p := hA0
  have hAk := hA
  have hlt : ∀ x ∈ p, x.block < W.heap.size := fun x hx => hW'.lt x (by rw [hbef]; exact List.mem_append_left _ hx)
  rw [Try.params3] at hA hval
  obtain ⟨v0, vs0, d0, ds0, p0, q0, hargs, rfl, hp0, h0, r0⟩ := trodAll_cons hA
  obtain ⟨v1, vs1, d1, ds1, p1, q1, rfl, rfl, hp1, h1, r1⟩ := trodAll_cons r0
  obtain ⟨v2, vs2, d2, ds2, p2, q2, rfl, rfl, hp2, h2, r2⟩ := trodAll_cons r1
  obtain ⟨v3, vs3, d3, ds3, p3, q3, rfl, rfl, hp3, h3, r3⟩ := trodAll_cons r2
  obtain ⟨v4, vs4, d4, ds4, p4, q4, rfl, rfl, hp4, h4, r4⟩ := trodAll_cons r3
  obtain ⟨v5, vs5, d5, ds5, p5, q5, rfl, rfl, hp5, h5, r5⟩ := trodAll_cons r4
  obtain ⟨rfl, rfl, hpz⟩ := trodAll_nil r5
  obtain rfl : args = #[v0, v1, v2, v3, v4, v5] := by cases args; simp_all
  obtain ⟨rfl, rfl⟩ := trodVars_none hV
  obtain ⟨p0, n0, c0, A0, rfl, m0, H0⟩ := open_list (hval 0 23 v0 rfl rfl) h0
  obtain ⟨a1, rfl, _, _, w1⟩ := open_int Try.underlying3 (hval 1 3 v1 rfl rfl) h1
  obtain ⟨a2, rfl, _, _, w2⟩ := open_int Try.underlying3 (hval 2 3 v2 rfl rfl) h2
  obtain ⟨a3, rfl, _, _, w3⟩ := open_int Try.underlying3 (hval 3 3 v3 rfl rfl) h3
  obtain ⟨b4a, b4b, b4c, rfl⟩ := open_pm (hval 4 25 v4 rfl rfl) h4
  obtain ⟨a5, rfl, _, _, w5⟩ := open_int Try.underlying3 (hval 5 3 v5 rfl rfl) h5
  clear hA0 hval0
  refine (walk p0 n0 c0 A0 m0 a1 w1 a2 w2 a3 w3 b4a b4b b4c a5 w5 W H0).mono fun e W' ⟨he, hg⟩ => ?_
  subst he
  exact ⟨_, rfl, ⟨_, _, _, [], p, [], hW', (trodAll_cons_mk (shut_bool Try.underlying4 _) trodAll_mk0), args_stay laidOut hg (by kernel_rfl) hAk hlt, rfl, hg.frame _, fun h => by cases h⟩⟩

theorem over : Rows.regionChangesRow.holds Try.pinned (OpenSpec.ofChange Rows.regionChangesSpec) :=
  OpenClaim.holds_of_wide 3 Try.f3 rfl rfl rfl rfl rfl rfl rfl ⟨rfl, rfl, rfl, rfl, rfl⟩ rfl rfl rfl rfl rfl (by kernel_rfl) Try.func3 (by kernel_rfl)
    (of_decide_eq_true (by kernel_rfl)) (by unfold Func.isWrapper; first | (rw [if_pos (by decide +kernel)]; kernel_rfl) | (rw [if_neg (by decide +kernel)]; exact ⟨rfl, rfl⟩))
    (fun os started H enc _ => lifted os started H enc)

theorem proved : Rows.RegionChangesSaid :=
  over
#print axioms proved
end Go.Proofs.Ytngaodfajihmmaa.regionChanges
