/- Regions: the document's Right and Error, and that they are the program's; two lists are the same. -/
import Derived.Test.YtngaodfajihmmaaG20
import Derived.Test.YtngaodfajihmmaaG14
namespace Go.Proofs.Ytngaodfajihmmaa
open Go.ChangeShapes Go.WideShapes Go.ChangeAt Go.RowKit Go.Maps
set_option linter.unusedSimpArgs false
set_option linter.unusedVariables false

theorem open_pm {H : Type} {enc : TypeId × Value → H} {W : World} {r : Reach} {b0 base : Nat} {sp : Nat → Bool} {held : Bool} {v : Value} {x : DataW H} {ps : List MemPlace}
    (hv : Value.okWide Try.prog W r b0 25 v) (h : DataW.Trod enc Try.prog W base sp held 25 v x ps) :
    ∃ a b c : Bool, v = pmV a b c := by
  obtain ⟨cs, rfl, hsz⟩ := okWide_struct Try.underlying25 hv
  obtain ⟨fuel, hf⟩ := h
  have hf2 : DataW.trod enc Try.prog W base sp held fuel 25 cs.toList = some (x, ps) := hf
  have hl3 : cs.toList.length = 3 := by rw [Array.length_toList]; exact hsz.trans cellsP
  obtain ⟨c0, c1, c2, hcs⟩ : ∃ c0 c1 c2, cs.toList = [c0, c1, c2] := by
    revert hl3
    match cs.toList with
    | [c0, c1, c2] => intro _; exact ⟨c0, c1, c2, rfl⟩
    | [] => intro q; cases q
    | [_] => intro q; cases q
    | [_, _] => intro q; cases q
    | _ :: _ :: _ :: _ :: _ => intro q; simp at q
  rw [hcs] at hf2
  obtain ⟨zs, m, _, _, jl, jlen, jf⟩ := DataW.trod_struct Try.underlying25 hf2
  have jg : ∀ i, i < 3 → ∃ y, zs[i]? = some y := fun i hi => ⟨_, List.getElem?_eq_getElem (by rw [jlen]; exact hi)⟩
  obtain ⟨z0, m0⟩ := jg 0 (by omega)
  obtain ⟨z1, m1⟩ := jg 1 (by omega)
  obtain ⟨z2, m2⟩ := jg 2 (by omega)
  obtain ⟨a3, e3, _⟩ := DataW.trod_bool Try.underlying4 ((jf 0 _ rfl).trans m0)
  obtain ⟨a4, e4, _⟩ := DataW.trod_bool Try.underlying4 ((jf 1 _ rfl).trans m1)
  obtain ⟨a5, e5, _⟩ := DataW.trod_bool Try.underlying4 ((jf 2 _ rfl).trans m2)
  obtain rfl := cell_of cellsB e3 (c := c0) rfl
  obtain rfl := cell_of cellsB e4 (c := c1) rfl
  obtain rfl := cell_of cellsB e5 (c := c2) rfl
  refine ⟨a3, a4, a5, ?_⟩
  have : cs = #[.bool a3, .bool a4, .bool a5] := by rw [← Array.toArray_toList (xs := cs), hcs]
  rw [this]
theorem cnt_top (p q : Int) (hpq : p ≤ q) : ∀ (L : List Rg) (e : Int), Can e L → cntR p q L ≤ max 0 (q - max e p)
  | [], e, _ => by show (0 : Int) ≤ _; omega
  | r :: l, e, h => by
    have i := cnt_top p q hpq l r.to h.2.1
    have h1 := h.1
    show r.len p q + cntR p q l ≤ _
    unfold Rg.len
    split <;> omega
theorem cnt_full {L : List Rg} (g : goodB L = true) {f t : Int} (hr : rightB f t = true) : cntR f t L ≤ t - f := by
  have := cnt_top f t (by have := right_is hr; omega) L 0 (good_can g).1
  have := right_is hr
  omega
/-- the error that the document names -/
def errR (L : List Rg) (f t how : Int) (x : Rg) : Int := if rightB f t = true then (if goodB L = true then (if how = 1 ∧ 0 < cntR f t L then 6 else if how = 3 ∧ cntR f t L ≠ t - f then 5 else if 64 < (changeV L f t (hhF how x)).length then 4 else 0) else 3) else 1
theorem err_add (L : List Rg) (x : Rg) : errR L x.fr x.to 1 x = errA (addN L x) (addL L x) ∧ (errA (addN L x) (addL L x) = 0 → changeV L x.fr x.to (hhF 1 x) = addL L x) := by
  unfold errR errA addN checkN
  by_cases hr : rightB x.fr x.to = true
  · by_cases g : goodB L = true
    · simp only [if_pos hr, if_pos g]
      by_cases z : 0 < cntR x.fr x.to L
      · simp [z]
      · have e := changev_add g x hr z
        have e' : changeV L x.fr x.to (hhF 1 x) = addL L x := by unfold hhF; rw [if_pos rfl]; exact e
        rw [e']
        refine ⟨?_, fun _ => rfl⟩
        rw [if_neg (fun q => z q.2), if_neg (fun q => by omega), if_pos trivial, if_neg z, if_pos rfl]
        by_cases l : 64 < (addL L x).length
        · rw [if_pos l, if_neg (by omega)]
        · rw [if_neg l, if_pos (by omega)]
    · simp [hr, g]
  · simp [hr]
theorem err_cut (L : List Rg) (f t : Int) (x : Rg) : errR L f t 2 x = errA (checkN L f t) (chg (fun _ => Rg.zero) f t L) ∧ (errA (checkN L f t) (chg (fun _ => Rg.zero) f t L) = 0 → changeV L f t (hhF 2 x) = chg (fun _ => Rg.zero) f t L) := by
  unfold errR errA checkN
  by_cases hr : rightB f t = true
  · by_cases g : goodB L = true
    · simp only [if_pos hr, if_pos g]
      have e := changev_cut g hr
      have e' : changeV L f t (hhF 2 x) = chg (fun _ => Rg.zero) f t L := by unfold hhF; rw [if_neg (by omega), if_pos rfl]; exact e
      rw [e']
      refine ⟨?_, fun _ => rfl⟩
      rw [if_neg (fun q => by omega), if_neg (fun q => by omega), if_pos trivial]
      by_cases l : 64 < (chg (fun _ => Rg.zero) f t L).length
      · rw [if_pos l, if_neg (by omega)]
      · rw [if_neg l, if_pos (by omega)]
    · simp [hr, g]
  · simp [hr]
theorem err_prot (L : List Rg) (f t : Int) (x : Rg) : errR L f t 3 x = errA (protN L f t) (chg (fun r => r.may x.w x.u x.x) f t L) ∧ (errA (protN L f t) (chg (fun r => r.may x.w x.u x.x) f t L) = 0 → changeV L f t (hhF 3 x) = chg (fun r => r.may x.w x.u x.x) f t L) := by
  unfold errR errA protN checkN
  by_cases hr : rightB f t = true
  · by_cases g : goodB L = true
    · simp only [if_pos hr, if_pos g]
      have e := changev_prot g hr x.w x.u x.x
      have e' : changeV L f t (hhF 3 x) = chg (fun r => r.may x.w x.u x.x) f t L := by unfold hhF; rw [if_neg (by omega), if_neg (by omega)]; exact e
      have cf := cnt_full g hr
      rw [e']
      refine ⟨?_, fun _ => rfl⟩
      by_cases z : cntR f t L < t - f
      · rw [if_neg (fun q => by omega), if_pos ⟨trivial, by omega⟩, if_pos trivial, if_pos z, if_neg (by omega)]
      · rw [if_neg (fun q => by omega), if_neg (fun q => by have := q.2; omega), if_pos trivial, if_neg z, if_pos rfl]
        by_cases l : 64 < (chg (fun r => r.may x.w x.u x.x) f t L).length
        · rw [if_pos l, if_neg (by omega)]
        · rw [if_neg l, if_pos (by omega)]
    · simp [hr, g]
  · simp [hr]
set_option maxHeartbeats 1000000 in
theorem rightr_any (f t : Int) (w : World) : Calls Try.prog 32 #[.int .i64 f, .int .i64 t] w fun e w' => e = .returned (.bool (rightB f t)) ∧ Below w.heap.size w w' := by
  unfold rightB
  by_cases c1 : 0 ≤ f
  rotate_left
  · have d1 : decide (0 ≤ f) = false := by simp [c1]
    go_enter Try.func32, Try.ntmps32
    go_wp2_with fail
    go_ret
    exact ⟨by simp [d1], Below.refl _ _⟩
  have d1 : decide (0 ≤ f) = true := by simp [c1]
  by_cases c2 : f < t
  rotate_left
  · have d2 : decide (f < t) = false := by simp [c2]
    go_enter Try.func32, Try.ntmps32
    go_wp2_with fail
    go_ret
    exact ⟨by simp [d1, d2], Below.refl _ _⟩
  have d2 : decide (f < t) = true := by simp [c2]
  by_cases c3 : t ≤ 34359738368
  rotate_left
  · have d3 : decide (t ≤ 34359738368) = false := by simp [c3]
    go_enter Try.func32, Try.ntmps32
    go_wp2_with fail
    go_ret
    exact ⟨by simp [d1, d2, d3], Below.refl _ _⟩
  have d3 : decide (t ≤ 34359738368) = true := by simp [c3]
  by_cases c4 : t - f ≤ 65536
  · have d4 : decide (t - f ≤ 65536) = true := by simp [c4]
    go_enter Try.func32, Try.ntmps32
    go_wp2_with fail
    go_ret
    exact ⟨by simp [d1, d2, d3, d4], Below.refl _ _⟩
  · have d4 : decide (t - f ≤ 65536) = false := by simp; omega
    go_enter Try.func32, Try.ntmps32
    go_wp2_with fail
    go_ret
    exact ⟨by simp [d1, d2, d3, d4], Below.refl _ _⟩

set_option maxRecDepth 8000 in
set_option maxHeartbeats 4000000 in
theorem errr_any (base : Nat) (p : Option Addr) (c : Nat) (L : List Rg) (hL : L.length ≤ 100) (hN : NumL L) (f t how : Int) (hw3 : how = 1 ∨ how = 2 ∨ how = 3) (x : Rg) (w : World) (h : IsL w base p L) :
    Calls Try.prog 15 #[.slice p L.length c, .int .i64 f, .int .i64 t, .int .i64 how, x.val] w fun e w' => e = .returned (.int .i64 (errR L f t how x)) ∧ Below w.heap.size w w' := by
  have HI : Hid (IsL w base p L) := h
  have RC : Hid (∀ W : World, Calls Try.prog 32 #[.int .i64 f, .int .i64 t] W fun e w' => e = .returned (.bool (rightB f t)) ∧ Below W.heap.size W w') := fun W => rightr_any f t W
  have GC : Hid (∀ W : World, IsL W base p L → Calls Try.prog 22 #[.slice p L.length c] W fun e w' => e = .returned (.bool (goodB L)) ∧ Below W.heap.size W w') := fun W h => goodr_any base p c L hL W h
  have CC : Hid (∀ W : World, IsL W base p L → Calls Try.prog 24 #[.slice p L.length c, .int .i64 f, .int .i64 t] W fun e w' => e = .returned (.int .i64 (cntR f t L)) ∧ Below W.heap.size W w') := fun W h => countr_any base p c L hL hN f t W h
  have DC : Hid (∀ W : World, IsL W base p L → Calls Try.prog 18 #[.slice p L.length c, .int .i64 f, .int .i64 t, .int .i64 how, x.val] W fun e w' => ∃ p' c', e = .returned (.slice p' (changeV L f t (hhF how x)).length c') ∧ IsL w' W.heap.size p' (changeV L f t (hhF how x)) ∧ Below W.heap.size W w') := fun W h => change_any base p c L hL f t how hw3 x W h
  obtain ⟨z, hz⟩ : ∃ z, errR L f t how x = z := ⟨_, rfl⟩
  rw [hz]
  have HZ : Hid ((if rightB f t = true then (if goodB L = true then (if how = 1 ∧ 0 < cntR f t L then 6 else if how = 3 ∧ cntR f t L ≠ t - f then 5 else if 64 < (changeV L f t (hhF how x)).length then 4 else 0) else 3) else 1) = z) := hz
  have RI : Hid (rightB f t = true → t - f ≤ 65536 ∧ 0 ≤ t - f) := fun q => by have := right_is q; omega
  clear hz h
  generalize rightB f t = rb at RC HZ RI
  generalize goodB L = gb at GC HZ
  generalize cntR f t L = cn at CC HZ
  generalize changeV L f t (hhF how x) = CV at DC HZ
  obtain ⟨nC, hnC⟩ : ∃ n, CV.length = n := ⟨_, rfl⟩
  rw [hnC] at DC HZ
  clear hnC
  obtain ⟨nL, hnL⟩ : ∃ n, L.length = n := ⟨_, rfl⟩
  rw [hnL] at GC CC DC hL ⊢
  clear hnL hN
  obtain ⟨x1, x2, x3, x4, x5, x6⟩ := x
  have BU : Hid (Below w.heap.size w (w.alloc (.cells #[.int .i64 x1, .int .i64 x2, .bool x3, .bool x4, .bool x5, .int .i64 x6] 31))) := Go.Joins.below_alloc1 _ _
  have IU : Hid (IsL (w.alloc (.cells #[.int .i64 x1, .int .i64 x2, .bool x3, .bool x4, .bool x5, .int .i64 x6] 31)) base p L) := HI.out.below (Go.Joins.below_alloc1 _ _)
  have XU : Hid ((w.alloc (.cells #[.int .i64 x1, .int .i64 x2, .bool x3, .bool x4, .bool x5, .int .i64 x6] 31)).heap[w.heap.size]? = some (.cells #[.int .i64 x1, .int .i64 x2, .bool x3, .bool x4, .bool x5, .int .i64 x6] 31 (0, 0))) := own1 w _
  clear HI
  go_enter Try.func15, Try.ntmps15
  go_wp2_with fail
  refine (RC.out _).mono ?_
  rintro e u1 ⟨rfl, hb⟩
  have Bu1 : Hid (Below w.heap.size w u1) := below_then BU.out hb
  have Iu1 : Hid (IsL u1 base p L) := IU.out.below hb
  have Xu1 : Hid (u1.heap[w.heap.size]? = some (.cells #[.int .i64 x1, .int .i64 x2, .bool x3, .bool x4, .bool x5, .int .i64 x6] 31 (0, 0))) := (hb.block _ (blk_lt XU.out)).trans XU.out
  clear hb BU IU XU
  cases rb
  · have E : Hid (z = 1) := HZ.out.symm
    go_wp2_with fail
    go_ret
    exact ⟨by have := E.out; subst this; rfl, Bu1.out⟩
  go_wp2_with fail
  refine (GC.out _ Iu1.out).mono ?_
  rintro e u2 ⟨rfl, hb⟩
  have Bu2 : Hid (Below w.heap.size w u2) := below_then Bu1.out hb
  have Iu2 : Hid (IsL u2 base p L) := Iu1.out.below hb
  have Xu2 : Hid (u2.heap[w.heap.size]? = some (.cells #[.int .i64 x1, .int .i64 x2, .bool x3, .bool x4, .bool x5, .int .i64 x6] 31 (0, 0))) := (hb.block _ (blk_lt Xu1.out)).trans Xu1.out
  clear hb Bu1 Iu1 Xu1
  cases gb
  · have E : Hid (z = 3) := HZ.out.symm
    go_wp2_with fail
    go_ret
    exact ⟨by have := E.out; subst this; rfl, Bu2.out⟩
  have TF := RI.out (by simp)
  have HZ2 : Hid ((if how = 1 ∧ 0 < cn then 6 else if how = 3 ∧ cn ≠ t - f then 5 else if 64 < nC then 4 else 0) = z) := HZ.out
  clear HZ RI RC GC
  have TC : Hid (64 < nC → ¬ (how = 1 ∧ 0 < cn) → ¬ (how = 3 ∧ cn ≠ t - f) → z = 4) := fun a b c => by rw [← HZ2.out, if_neg b, if_neg c, if_pos a]
  have TD : Hid (¬ 64 < nC → ¬ (how = 1 ∧ 0 < cn) → ¬ (how = 3 ∧ cn ≠ t - f) → z = 0) := fun a b c => by rw [← HZ2.out, if_neg b, if_neg c, if_neg a]
  have TA : Hid (how = 1 → 0 < cn → z = 6) := fun a b => by rw [← HZ2.out, if_pos ⟨a, b⟩]
  have TB : Hid (how = 3 → cn ≠ t - f → z = 5) := fun a b => by rw [← HZ2.out, if_neg (fun q => by omega), if_pos ⟨a, b⟩]
  clear HZ2
  rcases hw3 with hw | hw | hw
  · subst hw
    have b1 : ((1 : Int) == 1) = true := rfl
    have b3 : ((1 : Int) == 3) = false := rfl
    go_wp2_with fail
    refine (CC.out _ Iu2.out).mono ?_
    rintro e u3 ⟨rfl, hb⟩
    have Bu3 : Hid (Below w.heap.size w u3) := below_then Bu2.out hb
    have Iu3 : Hid (IsL u3 base p L) := Iu2.out.below hb
    have Xu3 : Hid (u3.heap[w.heap.size]? = some (.cells #[.int .i64 x1, .int .i64 x2, .bool x3, .bool x4, .bool x5, .int .i64 x6] 31 (0, 0))) := (hb.block _ (blk_lt Xu2.out)).trans Xu2.out
    clear hb Bu2 Iu2 Xu2
    by_cases q : 0 < cn
    · have qd : decide (0 < cn) = true := by simp [q]
      have E : Hid (z = 6) := TA.out (by simp) q
      go_wp2_with fail
      go_ret
      exact ⟨by have := E.out; subst this; rfl, Bu3.out⟩
    · have qd : decide (0 < cn) = false := by simp; omega
      have k0 : u3.cell? ⟨w.heap.size, 0, none⟩ = some (.int .i64 x1) := Go.Joins.cell_of_block Xu3.out 0
      have k1 : u3.cell? ⟨w.heap.size, 1, none⟩ = some (.int .i64 x2) := Go.Joins.cell_of_block Xu3.out 1
      have k2 : u3.cell? ⟨w.heap.size, 2, none⟩ = some (.bool x3) := Go.Joins.cell_of_block Xu3.out 2
      have k3 : u3.cell? ⟨w.heap.size, 3, none⟩ = some (.bool x4) := Go.Joins.cell_of_block Xu3.out 3
      have k4 : u3.cell? ⟨w.heap.size, 4, none⟩ = some (.bool x5) := Go.Joins.cell_of_block Xu3.out 4
      have k5 : u3.cell? ⟨w.heap.size, 5, none⟩ = some (.int .i64 x6) := Go.Joins.cell_of_block Xu3.out 5
      have lk : w.heap.size < u3.heap.size := blk_lt Xu3.out
      go_wp2_with fail
      refine (DC.out _ Iu3.out).mono ?_
      rintro e u9 ⟨p9, c9, rfl, _, hb⟩
      have Bu9 : Hid (Below w.heap.size w u9) := below_then Bu3.out hb
      have Iu9 : Hid (IsL u9 base p L) := Iu3.out.below hb
      have Xu9 : Hid (u9.heap[w.heap.size]? = some (.cells #[.int .i64 x1, .int .i64 x2, .bool x3, .bool x4, .bool x5, .int .i64 x6] 31 (0, 0))) := (hb.block _ (blk_lt Xu3.out)).trans Xu3.out
      clear k0 k1 k2 k3 k4 k5 lk
      clear hb Bu3 Iu3 Xu3
      by_cases l : 64 < nC
      · have ld : decide ((64 : Int) < (nC : Int)) = true := by simp; omega
        have E : Hid (z = 4) := TC.out l (fun k => by have := k.2; omega) (fun k => by omega)
        go_wp2_with fail
        go_ret
        exact ⟨by have := E.out; subst this; rfl, Bu9.out⟩
      · have ld : decide ((64 : Int) < (nC : Int)) = false := by simp; omega
        have E : Hid (z = 0) := TD.out l (fun k => by have := k.2; omega) (fun k => by omega)
        go_wp2_with fail
        go_ret
        exact ⟨by have := E.out; subst this; rfl, Bu9.out⟩
  · subst hw
    have b1 : ((2 : Int) == 1) = false := rfl
    have b3 : ((2 : Int) == 3) = false := rfl
    have k0 : u2.cell? ⟨w.heap.size, 0, none⟩ = some (.int .i64 x1) := Go.Joins.cell_of_block Xu2.out 0
    have k1 : u2.cell? ⟨w.heap.size, 1, none⟩ = some (.int .i64 x2) := Go.Joins.cell_of_block Xu2.out 1
    have k2 : u2.cell? ⟨w.heap.size, 2, none⟩ = some (.bool x3) := Go.Joins.cell_of_block Xu2.out 2
    have k3 : u2.cell? ⟨w.heap.size, 3, none⟩ = some (.bool x4) := Go.Joins.cell_of_block Xu2.out 3
    have k4 : u2.cell? ⟨w.heap.size, 4, none⟩ = some (.bool x5) := Go.Joins.cell_of_block Xu2.out 4
    have k5 : u2.cell? ⟨w.heap.size, 5, none⟩ = some (.int .i64 x6) := Go.Joins.cell_of_block Xu2.out 5
    have lk : w.heap.size < u2.heap.size := blk_lt Xu2.out
    go_wp2_with fail
    refine (DC.out _ Iu2.out).mono ?_
    rintro e u9 ⟨p9, c9, rfl, _, hb⟩
    have Bu9 : Hid (Below w.heap.size w u9) := below_then Bu2.out hb
    have Iu9 : Hid (IsL u9 base p L) := Iu2.out.below hb
    have Xu9 : Hid (u9.heap[w.heap.size]? = some (.cells #[.int .i64 x1, .int .i64 x2, .bool x3, .bool x4, .bool x5, .int .i64 x6] 31 (0, 0))) := (hb.block _ (blk_lt Xu2.out)).trans Xu2.out
    clear k0 k1 k2 k3 k4 k5 lk
    clear hb Bu2 Iu2 Xu2
    by_cases l : 64 < nC
    · have ld : decide ((64 : Int) < (nC : Int)) = true := by simp; omega
      have E : Hid (z = 4) := TC.out l (fun k => by omega) (fun k => by omega)
      go_wp2_with fail
      go_ret
      exact ⟨by have := E.out; subst this; rfl, Bu9.out⟩
    · have ld : decide ((64 : Int) < (nC : Int)) = false := by simp; omega
      have E : Hid (z = 0) := TD.out l (fun k => by omega) (fun k => by omega)
      go_wp2_with fail
      go_ret
      exact ⟨by have := E.out; subst this; rfl, Bu9.out⟩
  · subst hw
    have b1 : ((3 : Int) == 1) = false := rfl
    have b3 : ((3 : Int) == 3) = true := rfl
    go_wp2_with fail
    refine (CC.out _ Iu2.out).mono ?_
    rintro e u3 ⟨rfl, hb⟩
    have Bu3 : Hid (Below w.heap.size w u3) := below_then Bu2.out hb
    have Iu3 : Hid (IsL u3 base p L) := Iu2.out.below hb
    have Xu3 : Hid (u3.heap[w.heap.size]? = some (.cells #[.int .i64 x1, .int .i64 x2, .bool x3, .bool x4, .bool x5, .int .i64 x6] 31 (0, 0))) := (hb.block _ (blk_lt Xu2.out)).trans Xu2.out
    clear hb Bu2 Iu2 Xu2
    by_cases q : cn = t - f
    · have qd : (cn == t - f) = true := by simp [q]
      have Q : Hid (cn = t - f) := q
      clear q
      have k0 : u3.cell? ⟨w.heap.size, 0, none⟩ = some (.int .i64 x1) := Go.Joins.cell_of_block Xu3.out 0
      have k1 : u3.cell? ⟨w.heap.size, 1, none⟩ = some (.int .i64 x2) := Go.Joins.cell_of_block Xu3.out 1
      have k2 : u3.cell? ⟨w.heap.size, 2, none⟩ = some (.bool x3) := Go.Joins.cell_of_block Xu3.out 2
      have k3 : u3.cell? ⟨w.heap.size, 3, none⟩ = some (.bool x4) := Go.Joins.cell_of_block Xu3.out 3
      have k4 : u3.cell? ⟨w.heap.size, 4, none⟩ = some (.bool x5) := Go.Joins.cell_of_block Xu3.out 4
      have k5 : u3.cell? ⟨w.heap.size, 5, none⟩ = some (.int .i64 x6) := Go.Joins.cell_of_block Xu3.out 5
      have lk : w.heap.size < u3.heap.size := blk_lt Xu3.out
      go_wp2_with fail
      refine (DC.out _ Iu3.out).mono ?_
      rintro e u9 ⟨p9, c9, rfl, _, hb⟩
      have Bu9 : Hid (Below w.heap.size w u9) := below_then Bu3.out hb
      have Iu9 : Hid (IsL u9 base p L) := Iu3.out.below hb
      have Xu9 : Hid (u9.heap[w.heap.size]? = some (.cells #[.int .i64 x1, .int .i64 x2, .bool x3, .bool x4, .bool x5, .int .i64 x6] 31 (0, 0))) := (hb.block _ (blk_lt Xu3.out)).trans Xu3.out
      clear k0 k1 k2 k3 k4 k5 lk
      clear hb Bu3 Iu3 Xu3
      by_cases l : 64 < nC
      · have ld : decide ((64 : Int) < (nC : Int)) = true := by simp; omega
        have E : Hid (z = 4) := TC.out l (fun k => by omega) (fun k => k.2 Q.out)
        go_wp2_with fail
        go_ret
        exact ⟨by have := E.out; subst this; rfl, Bu9.out⟩
      · have ld : decide ((64 : Int) < (nC : Int)) = false := by simp; omega
        have E : Hid (z = 0) := TD.out l (fun k => by omega) (fun k => k.2 Q.out)
        go_wp2_with fail
        go_ret
        exact ⟨by have := E.out; subst this; rfl, Bu9.out⟩
    · have qd : (cn == t - f) = false := by simp [q]
      have E : Hid (z = 5) := TB.out (by simp) q
      clear q
      go_wp2_with fail
      go_ret
      exact ⟨by have := E.out; subst this; rfl, Bu3.out⟩

set_option maxRecDepth 8000 in
set_option maxHeartbeats 4000000 in
theorem same_any (pa pb : Option Addr) (ca cb : Nat) (M : List Rg) (hM : M.length ≤ 1000) (w : World) (ha : IsL w 0 pa M) (hb : IsL w 0 pb M) :
    Calls Try.prog 17 #[.slice pa M.length ca, .slice pb M.length cb] w fun e w' => e = .returned (.bool true) ∧ Below w.heap.size w w' := by
  have HA : Hid (IsL w 0 pa M) := ha
  have HB : Hid (IsL w 0 pb M) := hb
  have OC : Hid (∀ (r : Rg) (W : World), Calls Try.prog 12 #[r.val] W fun e w' => e = .returned r.val ∧ Below W.heap.size W w') := fun r W => one_any r W
  clear ha hb
  obtain ⟨n, hn⟩ : ∃ n, M.length = n := ⟨_, rfl⟩
  have HN : Hid (M.length = n) := hn
  rw [hn] at hM ⊢
  clear hn
  have ee : ((n : Int) == (n : Int)) = true := by simp
  go_enter Try.func17, Try.ntmps17
  go_wp2_with fail
  go_loopw [13] (fun x W => ∃ m : Nat, m ≤ n ∧ x = .int .i64 m ∧ Hid (Below w.heap.size w W)) (fun x _ => n - (intOf x).toNat)
  case atStart => exact ⟨0, by omega, rfl, Below.refl _ _⟩
  case round =>
    obtain ⟨m, hm, rfl, Bl⟩ := hrel
    by_cases hlt : m < n
    · have hd : decide ((m : Int) < (n : Int)) = true := by simp; omega
      have m1 : (0 : Int) ≤ (m : Int) := by omega
      have m2 : (m : Int) < (n : Int) := by omega
      obtain ⟨ga, hga, _, la, fa⟩ := HA.out m (by rw [HN.out]; exact hlt)
      obtain ⟨gb, hgb, _, lb, fb⟩ := HB.out m (by rw [HN.out]; exact hlt)
      generalize M.getD m Rg.zero = r at fa fb
      have OR : Hid _ := OC.out r
      obtain ⟨r1, r2, r3, r4, r5, r6⟩ := r
      subst hga hgb
      have CA : Hid ((∀ j x, ([.int .i64 r1, .int .i64 r2, .bool r3, .bool r4, .bool r5, .int .i64 r6] : List Value)[j]? = some x → wr.cell? ⟨ga, m * 6 + j, none⟩ = some x) ∧ (∀ j x, ([.int .i64 r1, .int .i64 r2, .bool r3, .bool r4, .bool r5, .int .i64 r6] : List Value)[j]? = some x → wr.cell? ⟨gb, m * 6 + j, none⟩ = some x)) := ⟨fun j x hx => (Bl.out.cell (p := ⟨ga, m * 6 + j, none⟩) la).trans (fa j x hx), fun j x hx => (Bl.out.cell (p := ⟨gb, m * 6 + j, none⟩) lb).trans (fb j x hx)⟩
      have LA : Hid (ga < wr.heap.size ∧ gb < wr.heap.size) := ⟨Nat.lt_of_lt_of_le la Bl.out.size, Nat.lt_of_lt_of_le lb Bl.out.size⟩
      clear fa fb la lb
      go_wp2_with fail
      refine wp_region_noPanic ?_
      refine wp_region_held_drew (S := fun c => (∀ j x, ([.int .i64 r1, .int .i64 r2, .bool r3, .bool r4, .bool r5, .int .i64 r6] : List Value)[j]? = some x → c.cell? ⟨ga, m * 6 + j, none⟩ = some x) ∧ (∀ j x, ([.int .i64 r1, .int .i64 r2, .bool r3, .bool r4, .bool r5, .int .i64 r6] : List Value)[j]? = some x → c.cell? ⟨gb, m * 6 + j, none⟩ = some x)) (by kernel_rfl) ?_ (fun hHeld => ?_)
      · exact CA.out
      have BU : Hid (Below w.heap.size w wr.drew) := ⟨Bl.out.os, Bl.out.tape, Bl.out.output, Bl.out.size, Bl.out.block⟩
      have CU : Hid ((∀ j x, ([.int .i64 r1, .int .i64 r2, .bool r3, .bool r4, .bool r5, .int .i64 r6] : List Value)[j]? = some x → wr.drew.cell? ⟨ga, m * 6 + j, none⟩ = some x) ∧ (∀ j x, ([.int .i64 r1, .int .i64 r2, .bool r3, .bool r4, .bool r5, .int .i64 r6] : List Value)[j]? = some x → wr.drew.cell? ⟨gb, m * 6 + j, none⟩ = some x)) := CA.out
      have LU : Hid (ga < wr.drew.heap.size ∧ gb < wr.drew.heap.size) := LA.out
      clear CA Bl LA
      generalize wr.drew = U at BU CU LU hHeld ⊢
      refine wpAnyH_take (i := 0) (oi := ⟨some 16, _, _, _, _, none⟩) (v := ?_) rfl (by kernel_rfl) (by kernel_rfl) (by kernel_rfl) (fun _ _ _ h => h) (Or.inl ⟨by rfl, ?_⟩) (by assumption) ?_
      rotate_left
      · intro w hSw; (try dsimp only at hSw); go_simp; (try with_reducible rfl)
      try simp only [Act.put, List.setIfInBounds_toArray, List.set_cons_zero, List.set_cons_succ]
      refine wpAnyH_take (i := 1) (oi := ⟨some 17, _, _, _, _, none⟩) (v := ?_) rfl (by kernel_rfl) (by kernel_rfl) (by kernel_rfl) (fun _ _ _ h => h) (Or.inl ⟨by rfl, ?_⟩) (by assumption) ?_
      rotate_left
      · intro w hSw; (try dsimp only at hSw); go_simp; (try with_reducible rfl)
      try simp only [Act.put, List.setIfInBounds_toArray, List.set_cons_zero, List.set_cons_succ]
      refine wpAnyH_take (i := 2) (oi := ⟨some 18, _, _, _, _, none⟩) (v := .pointer (some ⟨ga, m * 6, none⟩)) rfl (by kernel_rfl) (by kernel_rfl) (by kernel_rfl) (fun _ _ _ h => h) (Or.inl ⟨by rfl, ?_⟩) (by assumption) ?_
      · intro w hSw; (try dsimp only at hSw); go_simp; (try simp); (try (simp only [IntKind.wrap_i64]; omega))
      try simp only [Act.put, List.setIfInBounds_toArray, List.set_cons_zero, List.set_cons_succ]
      refine wpAnyH_take (i := 3) (oi := ⟨some 19, _, _, _, _, none⟩) (v := .agg #[.int .i64 r1, .int .i64 r2, .bool r3, .bool r4, .bool r5, .int .i64 r6]) rfl (by kernel_rfl) (by kernel_rfl) (by kernel_rfl) (fun _ _ _ h => h) (Or.inl ⟨by rfl, ?_⟩) (by assumption) ?_
      · intro w hSw; (try dsimp only at hSw); have q0 : w.cell? ⟨ga, m * 6, none⟩ = some (.int .i64 r1) := hSw.1 0 _ rfl; have q1 : w.cell? ⟨ga, m * 6 + 1, none⟩ = some (.int .i64 r2) := hSw.1 1 _ rfl; have q2 : w.cell? ⟨ga, m * 6 + 2, none⟩ = some (.bool r3) := hSw.1 2 _ rfl; have q3 : w.cell? ⟨ga, m * 6 + 3, none⟩ = some (.bool r4) := hSw.1 3 _ rfl; have q4 : w.cell? ⟨ga, m * 6 + 4, none⟩ = some (.bool r5) := hSw.1 4 _ rfl; have q5 : w.cell? ⟨ga, m * 6 + 5, none⟩ = some (.int .i64 r6) := hSw.1 5 _ rfl; go_simp; (try simp)
      try simp only [Act.put, List.setIfInBounds_toArray, List.set_cons_zero, List.set_cons_succ]
      refine wpAnyH_take (i := 4) (oi := ⟨some 20, _, _, _, _, none⟩) (v := ?_) rfl (by kernel_rfl) (by kernel_rfl) (by kernel_rfl) (fun _ _ _ h => h) (Or.inl ⟨by rfl, ?_⟩) (by assumption) ?_
      rotate_left
      · intro w hSw; (try dsimp only at hSw); go_simp; (try with_reducible rfl)
      try simp only [Act.put, List.setIfInBounds_toArray, List.set_cons_zero, List.set_cons_succ]
      refine wpAnyH_take (i := 5) (oi := ⟨some 21, _, _, _, _, none⟩) (v := ?_) rfl (by kernel_rfl) (by kernel_rfl) (by kernel_rfl) (fun _ _ _ h => h) (Or.inl ⟨by rfl, ?_⟩) (by assumption) ?_
      rotate_left
      · intro w hSw; (try dsimp only at hSw); go_simp; (try with_reducible rfl)
      try simp only [Act.put, List.setIfInBounds_toArray, List.set_cons_zero, List.set_cons_succ]
      refine wpAnyH_take (i := 6) (oi := ⟨some 22, _, _, _, _, none⟩) (v := .pointer (some ⟨gb, m * 6, none⟩)) rfl (by kernel_rfl) (by kernel_rfl) (by kernel_rfl) (fun _ _ _ h => h) (Or.inl ⟨by rfl, ?_⟩) (by assumption) ?_
      · intro w hSw; (try dsimp only at hSw); go_simp; (try simp); (try (simp only [IntKind.wrap_i64]; omega))
      try simp only [Act.put, List.setIfInBounds_toArray, List.set_cons_zero, List.set_cons_succ]
      refine wpAnyH_take (i := 7) (oi := ⟨some 23, _, _, _, _, none⟩) (v := .agg #[.int .i64 r1, .int .i64 r2, .bool r3, .bool r4, .bool r5, .int .i64 r6]) rfl (by kernel_rfl) (by kernel_rfl) (by kernel_rfl) (fun _ _ _ h => h) (Or.inl ⟨by rfl, ?_⟩) (by assumption) ?_
      · intro w hSw; (try dsimp only at hSw); have q0 : w.cell? ⟨gb, m * 6, none⟩ = some (.int .i64 r1) := hSw.2 0 _ rfl; have q1 : w.cell? ⟨gb, m * 6 + 1, none⟩ = some (.int .i64 r2) := hSw.2 1 _ rfl; have q2 : w.cell? ⟨gb, m * 6 + 2, none⟩ = some (.bool r3) := hSw.2 2 _ rfl; have q3 : w.cell? ⟨gb, m * 6 + 3, none⟩ = some (.bool r4) := hSw.2 3 _ rfl; have q4 : w.cell? ⟨gb, m * 6 + 4, none⟩ = some (.bool r5) := hSw.2 4 _ rfl; have q5 : w.cell? ⟨gb, m * 6 + 5, none⟩ = some (.int .i64 r6) := hSw.2 5 _ rfl; go_simp; (try simp)
      try simp only [Act.put, List.setIfInBounds_toArray, List.set_cons_zero, List.set_cons_succ]
      refine wpAnyH_ready (rs := [8]) (by kernel_rfl) (by simp) ?_
      refine AllReadyH.cons (o := ⟨some 24, _, _, _, _, none⟩) rfl (fun K hK => ?_) AllReadyH.nil
      go_simp
      go_wp2_with (go_at_call 12; refine (OR.out _).mono ?_; rintro e v1 ⟨rfl, hb⟩)
      have B1 : Hid (Below w.heap.size w v1) := below_then BU.out hb
      have C1 : Hid ((∀ j x, ([.int .i64 r1, .int .i64 r2, .bool r3, .bool r4, .bool r5, .int .i64 r6] : List Value)[j]? = some x → v1.cell? ⟨ga, m * 6 + j, none⟩ = some x) ∧ (∀ j x, ([.int .i64 r1, .int .i64 r2, .bool r3, .bool r4, .bool r5, .int .i64 r6] : List Value)[j]? = some x → v1.cell? ⟨gb, m * 6 + j, none⟩ = some x)) := ⟨fun j x hx => (hb.cell (p := ⟨ga, m * 6 + j, none⟩) LU.out.1).trans (CU.out.1 j x hx), fun j x hx => (hb.cell (p := ⟨gb, m * 6 + j, none⟩) LU.out.2).trans (CU.out.2 j x hx)⟩
      clear hb hHeld BU CU LU
      refine hK.out _ _ C1.out (fun hHeld => ?_)
      clear hK K
      try simp only [Act.put, List.setIfInBounds_toArray, List.set_cons_zero, List.set_cons_succ]
      refine wpAnyH_take (i := 9) (oi := ⟨some 25, _, _, _, _, none⟩) (v := .bool false) rfl (by kernel_rfl) (by kernel_rfl) (by kernel_rfl) (fun _ _ _ h => h) (Or.inl ⟨by rfl, ?_⟩) (by assumption) ?_
      · intro w hSw; (try dsimp only at hSw); go_simp; (try simp); (try (simp only [IntKind.wrap_i64]; omega))
      try simp only [Act.put, List.setIfInBounds_toArray, List.set_cons_zero, List.set_cons_succ]
      clear hHeld C1
      refine wpAnyH_done (by kernel_rfl) ?_ _
      refine NoPanic.normal ?_
      go_wp2_with fail
      go_roundw
      case rel => exact ⟨m + 1, by omega, by go_num, B1⟩
      case measure => simp [intOf]; omega
    · have hd : decide ((m : Int) < (n : Int)) = false := by simp; omega
      go_wp2_with fail
      go_ret
      exact ⟨rfl, Bl.out⟩
end Go.Proofs.Ytngaodfajihmmaa
