/- WalkMays: any access of any page may be, or not, as the document says. No condition. -/
import Derived.Test.YtkbkikbcpllknaaDoorRows
import Derived.Test.YtkbkikbcpllknaaDoorCards
import Derived.Test.YtkbkikbcpllknaaDoorTie
import Derived.ProofKit
import Derived.OpenShut
import Derived.Stop.Joined
import Derived.SevenTiedAt
import Derived.Test.YtkbkikbcpllknaaDoorL7
namespace Go.Proofs.YtkbkikbcpllknaaDoor.walkMays
open Go.ChangeShapes Go.WideShapes Go.ChangeAt Go.RowKit
set_option linter.unusedSimpArgs false
set_option linter.unusedVariables false
set_option maxRecDepth 8000

set_option maxHeartbeats 4000000 in
theorem walk (s0 : B3) (s1 : B3) (w : World) (ht : Tab w) :
    Calls Tryd.prog 4 #[s0.val, s1.val] w fun e w' => e = .returned (.bool true) ∧ Below w.heap.size w w' := by
  obtain ⟨p0, p1, p2⟩ := s0
  obtain ⟨a0, a1, a2⟩ := s1
  have AW : Hid (∀ W : World, Below w.heap.size w W → Calls Tryd.prog 10 #[] W fun e w' => e = .returned (.bool true) ∧ Below W.heap.size W w') := fun W hb => awake_any W (ht.below hb ht.1)
  obtain ⟨m, hm⟩ : ∃ m, m = mayV p0 p1 p2 a0 a1 a2 := ⟨_, rfl⟩
  have CM : Hid (∀ W : World, Calls Tryd.prog 14 #[.agg #[.bool p0, .bool p1, .bool p2], .agg #[.bool a0, .bool a1, .bool a2]] W fun e w' => e = .returned (.bool m) ∧ Below W.heap.size W w') := fun W => by rw [hm]; exact may_any p0 p1 p2 a0 a1 a2 W
  have CR : Hid (∀ W : World, Calls Tryd.prog 15 #[.bool p0, .bool p1, .bool p2, .agg #[.bool a0, .bool a1, .bool a2]] W fun e w' => e = .returned (.bool m) ∧ Below W.heap.size W w') := fun W => by rw [hm]; exact rmay_any p0 p1 p2 a0 a1 a2 W
  clear hm
  have ZP : Hid (Blk ((w.alloc (.cells #[.bool p0, .bool p1, .bool p2] 38)).alloc (.cells #[.bool a0, .bool a1, .bool a2] 34)) w.heap.size [.bool p0, .bool p1, .bool p2] 38) := (Blk.made w _ _).below (Go.Joins.below_alloc1 _ _)
  have ZA : Hid (Blk ((w.alloc (.cells #[.bool p0, .bool p1, .bool p2] 38)).alloc (.cells #[.bool a0, .bool a1, .bool a2] 34)) (w.heap.size + 1) [.bool a0, .bool a1, .bool a2] 34) := by
    have h := Blk.made (w.alloc (.cells #[.bool p0, .bool p1, .bool p2] 38)) [.bool a0, .bool a1, .bool a2] 34
    rw [World.size_alloc] at h
    exact h
  have ZB : Hid (Below w.heap.size w ((w.alloc (.cells #[.bool p0, .bool p1, .bool p2] 38)).alloc (.cells #[.bool a0, .bool a1, .bool a2] 34))) := below_new (below_new (Below.refl _ _) _) _
  go_enter Tryd.func4, Tryd.ntmps4
  go_upto_region 1 with fail
  generalize ((w.alloc (.cells #[.bool p0, .bool p1, .bool p2] 38)).alloc (.cells #[.bool a0, .bool a1, .bool a2] 34)) = u at ZP ZA ZB ⊢
  refine wp_region_noPanic ?_
  refine wp_region_held_drew (S := fun c => Blk c w.heap.size [.bool p0, .bool p1, .bool p2] 38 ∧ Blk c (w.heap.size + 1) [.bool a0, .bool a1, .bool a2] 34 ∧ Below w.heap.size w c) (by kernel_rfl) ?_ (fun hH => ?_)
  · exact ⟨ZP.out, ZA.out, below_drw ZB.out⟩
  clear ZP ZA ZB
  generalize u.drew = v0 at hH ⊢
  refine wpAnyH_ready (rs := [0]) (by kernel_rfl) (by simp) ?_
  refine AllReadyH.cons (o := ⟨some 5, _, _, _, _, none⟩) rfl (fun K hK => ?_) AllReadyH.nil
  go_simp
  go_wp2_with (go_at_call 10; refine (AW.out _ hH.2.2).mono ?_; rintro e v1 ⟨rfl, hb⟩)
  refine hK.out _ _ ⟨Blk.below hH.1 hb, Blk.below hH.2.1 hb, below_next hH.2.2 hb⟩ (fun hH1 => ?_)
  clear hK K hb hH
  try simp only [Act.put, List.setIfInBounds_toArray, List.set_cons_zero, List.set_cons_succ]
  refine wpAnyH_take (i := 1) (oi := ⟨some 6, _, _, _, _, none⟩) (v := ?_) rfl (by kernel_rfl) (by kernel_rfl) (by kernel_rfl) (fun _ _ _ h => h) (Or.inl ⟨by rfl, ?_⟩) (by assumption) ?_
  rotate_left
  · intro w hSw; (try dsimp only at hSw); go_simp; (try with_reducible rfl)
  try simp only [Act.put, List.setIfInBounds_toArray, List.set_cons_zero, List.set_cons_succ]
  refine wpAnyH_take (i := 2) (oi := ⟨some 7, _, _, _, _, some (1, true)⟩) (v := .agg #[.bool p0, .bool p1, .bool p2]) rfl (by kernel_rfl) (by kernel_rfl) (by kernel_rfl) (fun _ _ _ h => h) (yieldsIf_load_mid (by rfl) 38 _ rfl (w.heap.size) 0 rfl [.bool p0, .bool p1, .bool p2] _ (fun _ h => Blk.range h.1) Tryd.underlying38 rfl pm_info) (by assumption) ?_
  try simp only [Act.put, List.setIfInBounds_toArray, List.set_cons_zero, List.set_cons_succ]
  refine wpAnyH_take (i := 3) (oi := ⟨some 8, _, _, _, _, some (1, true)⟩) (v := .agg #[.bool a0, .bool a1, .bool a2]) rfl (by kernel_rfl) (by kernel_rfl) (by kernel_rfl) (fun _ _ _ h => h) (yieldsIf_load_mid (by rfl) 34 _ rfl (w.heap.size + 1) 0 rfl [.bool a0, .bool a1, .bool a2] _ (fun _ h => Blk.range h.2.1) Tryd.underlying34 rfl ac_info) (by assumption) ?_
  try simp only [Act.put, List.setIfInBounds_toArray, List.set_cons_zero, List.set_cons_succ]
  refine wpAnyH_take (i := 5) (oi := ⟨some 10, _, _, _, _, some (1, true)⟩) (v := ?_) rfl (by kernel_rfl) (by kernel_rfl) (by kernel_rfl) (fun _ _ _ h => h) (Or.inl ⟨by rfl, ?_⟩) (by assumption) ?_
  rotate_left
  · intro w hSw; (try dsimp only at hSw); go_simp; (try with_reducible rfl)
  try simp only [Act.put, List.setIfInBounds_toArray, List.set_cons_zero, List.set_cons_succ]
  refine wpAnyH_take (i := 6) (oi := ⟨some 11, _, _, _, _, some (1, true)⟩) (v := .bool p0) rfl (by kernel_rfl) (by kernel_rfl) (by kernel_rfl) (fun _ _ _ h => h) (Or.inl ⟨by rfl, ?_⟩) (by assumption) ?_
  · intro w' hSw; have hc := Blk.cell hSw.1 0; simp only [List.getElem?_cons_zero, List.getElem?_cons_succ] at hc; go_simp
  try simp only [Act.put, List.setIfInBounds_toArray, List.set_cons_zero, List.set_cons_succ]
  refine wpAnyH_take (i := 7) (oi := ⟨some 12, _, _, _, _, some (1, true)⟩) (v := ?_) rfl (by kernel_rfl) (by kernel_rfl) (by kernel_rfl) (fun _ _ _ h => h) (Or.inl ⟨by rfl, ?_⟩) (by assumption) ?_
  rotate_left
  · intro w hSw; (try dsimp only at hSw); go_simp; (try with_reducible rfl)
  try simp only [Act.put, List.setIfInBounds_toArray, List.set_cons_zero, List.set_cons_succ]
  refine wpAnyH_take (i := 8) (oi := ⟨some 13, _, _, _, _, some (1, true)⟩) (v := .bool p1) rfl (by kernel_rfl) (by kernel_rfl) (by kernel_rfl) (fun _ _ _ h => h) (Or.inl ⟨by rfl, ?_⟩) (by assumption) ?_
  · intro w' hSw; have hc := Blk.cell hSw.1 1; simp only [List.getElem?_cons_zero, List.getElem?_cons_succ] at hc; go_simp
  try simp only [Act.put, List.setIfInBounds_toArray, List.set_cons_zero, List.set_cons_succ]
  refine wpAnyH_take (i := 9) (oi := ⟨some 14, _, _, _, _, some (1, true)⟩) (v := ?_) rfl (by kernel_rfl) (by kernel_rfl) (by kernel_rfl) (fun _ _ _ h => h) (Or.inl ⟨by rfl, ?_⟩) (by assumption) ?_
  rotate_left
  · intro w hSw; (try dsimp only at hSw); go_simp; (try with_reducible rfl)
  try simp only [Act.put, List.setIfInBounds_toArray, List.set_cons_zero, List.set_cons_succ]
  refine wpAnyH_take (i := 10) (oi := ⟨some 15, _, _, _, _, some (1, true)⟩) (v := .bool p2) rfl (by kernel_rfl) (by kernel_rfl) (by kernel_rfl) (fun _ _ _ h => h) (Or.inl ⟨by rfl, ?_⟩) (by assumption) ?_
  · intro w' hSw; have hc := Blk.cell hSw.1 2; simp only [List.getElem?_cons_zero, List.getElem?_cons_succ] at hc; go_simp
  try simp only [Act.put, List.setIfInBounds_toArray, List.set_cons_zero, List.set_cons_succ]
  refine wpAnyH_take (i := 11) (oi := ⟨some 16, _, _, _, _, some (1, true)⟩) (v := .agg #[.bool a0, .bool a1, .bool a2]) rfl (by kernel_rfl) (by kernel_rfl) (by kernel_rfl) (fun _ _ _ h => h) (yieldsIf_load_mid (by rfl) 34 _ rfl (w.heap.size + 1) 0 rfl [.bool a0, .bool a1, .bool a2] _ (fun _ h => Blk.range h.2.1) Tryd.underlying34 rfl ac_info) (by assumption) ?_
  try simp only [Act.put, List.setIfInBounds_toArray, List.set_cons_zero, List.set_cons_succ]
  refine wpAnyH_ready (rs := [4]) (by kernel_rfl) (by simp) ?_
  refine AllReadyH.cons (o := ⟨some 9, _, _, _, _, some (1, true)⟩) rfl (fun K hK => ?_) AllReadyH.nil
  go_simp
  go_wp2_with (go_at_call 14; refine (CM.out _).mono ?_; rintro e v2 ⟨rfl, hb⟩)
  refine hK.out _ _ ⟨Blk.below hH1.1 hb, Blk.below hH1.2.1 hb, below_next hH1.2.2 hb⟩ (fun hH2 => ?_)
  clear hK K hb hH1
  try simp only [Act.put, List.setIfInBounds_toArray, List.set_cons_zero, List.set_cons_succ]
  refine wpAnyH_ready (rs := [12]) (by kernel_rfl) (by simp) ?_
  refine AllReadyH.cons (o := ⟨some 17, _, _, _, _, some (1, true)⟩) rfl (fun K hK => ?_) AllReadyH.nil
  go_simp
  go_wp2_with (go_at_call 15; refine (CR.out _).mono ?_; rintro e v3 ⟨rfl, hb⟩)
  refine hK.out _ _ ⟨Blk.below hH2.1 hb, Blk.below hH2.2.1 hb, below_next hH2.2.2 hb⟩ (fun hH3 => ?_)
  clear hK K hb hH2
  try simp only [Act.put, List.setIfInBounds_toArray, List.set_cons_zero, List.set_cons_succ]
  refine wpAnyH_take (i := 13) (oi := ⟨some 18, _, _, _, _, some (1, true)⟩) (v := .bool true) rfl (by kernel_rfl) (by kernel_rfl) (by kernel_rfl) (fun _ _ _ h => h) (Or.inl ⟨by rfl, ?_⟩) (by assumption) ?_
  · intro w hSw; go_simp; (try simp)
  try simp only [Act.put, List.setIfInBounds_toArray, List.set_cons_zero, List.set_cons_succ]
  refine wpAnyH_take (i := 14) (oi := ⟨some 19, _, _, _, _, none⟩) (v := ?_) rfl (by kernel_rfl) (by kernel_rfl) (by kernel_rfl) (fun _ _ _ h => h) (Or.inl ⟨by rfl, ?_⟩) (by assumption) ?_
  rotate_left
  · intro w hSw; (try dsimp only at hSw); go_simp; (try with_reducible rfl)
  try simp only [Act.put, List.setIfInBounds_toArray, List.set_cons_zero, List.set_cons_succ]
  refine wpAnyH_take (i := 15) (oi := ⟨some 4, _, _, _, _, none⟩) (v := ?_) rfl (by kernel_rfl) (by kernel_rfl) (by kernel_rfl) (fun _ _ _ h => h) (Or.inl ⟨by rfl, ?_⟩) (by assumption) ?_
  rotate_left
  · intro w hSw; (try dsimp only at hSw); go_simp; (try with_reducible rfl)
  try simp only [Act.put, List.setIfInBounds_toArray, List.set_cons_zero, List.set_cons_succ]
  have BX : Hid (Below w.heap.size w v3) := hH3.2.2
  clear hH3
  refine wpAnyH_done (by kernel_rfl) ?_ _
  refine NoPanic.normal ?_
  go_wp2_with fail
  go_ret
  exact ⟨rfl, BX.out⟩

set_option maxRecDepth 100000 in
theorem lifted (os : Os) (started : os.Started) (H : Type) (enc : TypeId × Value → H) :
    ReturnsInHanded {} Tryd.checked os 4 .any (fun w args => (Rows.walkMaysSpec.pre enc Tryd.prog Tryd.f4 [] false w args ∧ laidMetH Tryd.prog laidL w) ∧ sizedMet enc Tryd.prog Tryd.f4 (OpenSpec.ofChange Rows.walkMaysSpec) false w args)
      (Rows.walkMaysSpec.post enc Tryd.prog Tryd.f4 false true false false) := by
  refine returnsInHanded_of_change_and (C := Tryd.checked) (X := fun w _ => laidMetH Tryd.prog laidL w) (fun _ _ _ hh h => h.of_heap hh) own started (by kernel_rfl) Tryd.func4
    (ChangeSpec.witness_shaped (enc := enc) (C := Tryd.checked) (os := os) (X := fun w _ => laidMetH Tryd.prog laidL w) false (World.doorLaid Tryd.prog 400 os) #[.agg #[.bool false, .bool false, .bool false], .agg #[.bool false, .bool false, .bool false]] 8 rfl (World.shaped_of_RefB (by kernel_rfl) (by kernel_rfl)) (by kernel_rfl) (by kernel_rfl) (by kernel_rfl) (door_met os _)) ?_
  intro W base args ds gs before hval0 hW _ _ hL _
  have hval : ∀ (j : Nat) t v, Tryd.f4.params[j]? = some t → args[j]? = some v → Value.okWide Tryd.prog W .any base t v := hval0
  have hW' := hW
  obtain ⟨p, q, hA0, hV, hbef, hfz, hnd⟩ := hW
  have hA : DataW.TrodAll enc Tryd.prog W 0 (fun _ => true) true Tryd.f4.params.toList args.toList ds p := hA0
  have hAk := hA
  have hlt : ∀ x ∈ p, x.block < W.heap.size := fun x hx => hW'.lt x (by rw [hbef]; exact List.mem_append_left _ hx)
  rw [Tryd.params4] at hA hval
  obtain ⟨v0, vs0, d0, ds0, p0, q0, hargs, rfl, hp0, h0, r0⟩ := trodAll_cons hA
  obtain ⟨v1, vs1, d1, ds1, p1, q1, rfl, rfl, hp1, h1, r1⟩ := trodAll_cons r0
  obtain ⟨rfl, rfl, hpz⟩ := trodAll_nil r1
  obtain rfl : args = #[v0, v1] := by cases args; simp_all
  obtain ⟨rfl, rfl⟩ := trodVars_none hV
  obtain ⟨s0, rfl, _⟩ := open_pm3 (hval 0 38 v0 rfl rfl) h0
  obtain ⟨s1, rfl, _⟩ := open_ac3 (hval 1 34 v1 rfl rfl) h1
  clear hA0 hval0
  refine (walk s0 s1 W (of_laid hL)).mono fun e W' ⟨he, hg⟩ => ?_
  subst he
  exact ⟨_, rfl, ⟨_, _, _, [], p, [], hW', (trodAll_cons_mk (shut_bool Tryd.underlying4 _) trodAll_mk0), args_stay laidOut hg (by kernel_rfl) hAk hlt, rfl, hg.frame _, fun h => by cases h⟩⟩

theorem over : Rows.walkMaysRow.holds Tryd.pinned (OpenSpec.ofChange Rows.walkMaysSpec) :=
  OpenClaim.holds_of_wide 4 Tryd.f4 rfl rfl rfl rfl rfl rfl rfl ⟨rfl, rfl, rfl, rfl, rfl⟩ rfl rfl rfl rfl rfl (by kernel_rfl) Tryd.func4 (by kernel_rfl)
    (of_decide_eq_true (by kernel_rfl)) (by unfold Func.isWrapper; first | (rw [if_pos (by decide +kernel)]; kernel_rfl) | (rw [if_neg (by decide +kernel)]; exact ⟨rfl, rfl⟩))
    (fun os started H enc _ => lifted os started H enc)

theorem proved : Rows.WalkMaysCardSaid :=
  Claim7.holds_tied_plain_at .later [] [.data] true (true, "2a6e59ec9e225d64675e460dcd5b1b0b3cd5b025de7b313b17a7fe5eb85b0249") true
    over (fun _ h => by cases h) (by kernel_rfl) (fun _ h => by cases h) walkMays_row_tie rfl ⟨rfl, rfl⟩ (by kernel_rfl) rfl
    (fun f fn hf hfn => by
      obtain rfl : f = 4 := Option.some.inj ((show Tryd.prog.funcNamed "demesne/demesnelaw04.WalkMays" = some 4 by kernel_rfl).symm.trans hf) |>.symm
      obtain rfl : fn = Tryd.f4 := (Option.some.inj (Tryd.func4.symm.trans hfn)).symm
      exact ⟨by kernel_rfl, fun j t ht => by
        rw [Tryd.params4] at ht
        have hm : t ∈ [38, 34] := by simpa using Array.mem_of_getElem? ht
        have hall : ([38, 34].all fun u => !Tryd.prog.wantsStandIn u) = true := by kernel_rfl
        exact (show Tryd.prog.wantsStandIn t = false by simpa using List.all_eq_true.1 hall t hm)⟩)
    (by kernel_rfl)
#print axioms proved
end Go.Proofs.YtkbkikbcpllknaaDoor.walkMays
