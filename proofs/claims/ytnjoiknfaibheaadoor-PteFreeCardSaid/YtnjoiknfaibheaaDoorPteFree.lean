/- For any number, entry and level: what isn't there has no reserved bit, nor what was packed and isn't Large; the table of the flags' bits as the program lays it. -/
import Derived.Test.YtnjoiknfaibheaaDoorRows
import Derived.Test.YtnjoiknfaibheaaDoorCards
import Derived.Test.YtnjoiknfaibheaaDoorTie
import Derived.ProofKit
import Derived.OpenShut
import Derived.Stop.Joined
import Derived.SevenTiedAt
import Derived.Test.YtnjoiknfaibheaaDoorP5
namespace Go.Proofs.YtnjoiknfaibheaaDoor.pteFree
open Go.ChangeShapes Go.WideShapes Go.ChangeAt Go.RowKit
set_option linter.unusedSimpArgs false
set_option linter.unusedVariables false
theorem andNot_one (x : Int) (x0 : 0 ≤ x) (x1 : x < 18446744073709551616) : bits .andNot .u64 x 1 = x - x % 2 := by
  rw [u64_andNot _ _ x0 x1 (by omega) (by omega)]
  rw [show 18446744073709551615 - (1 : Int).toNat = (2 ^ 63 - 1) * 2 ^ 1 from by decide, nat_mask]
  simp only [Nat.reducePow, Nat.pow_one]
  omega
theorem res_even (y level : Int) (h : y % 2 = 0) : resV y level = false := by
  unfold resV bt; rw [h]; rfl
theorem res_packed (p q u a d g n : Bool) (f level : Int) (f0 : 0 ≤ f) (f1 : f < 1048576) : resV (packV p q u a d false g n f) level = false := by
  have e1 : packV p q u a d false g n f / 4294967296 % 1048576 = 0 := by
    have h0 := fl_bd p 1 (by omega)
    have h1 := fl_bd q 2 (by omega)
    have h2 := fl_bd u 4 (by omega)
    have h3 := fl_bd a 32 (by omega)
    have h4 := fl_bd d 64 (by omega)
    have h6 := fl_bd g 256 (by omega)
    have h7 := fl_cases n 9223372036854775808
    unfold packV; rw [fl_false]; omega
  have e2 : packV p q u a d false g n f / 128 % 2 = 0 := by
    have h0 := fl_bd p 1 (by omega)
    have h1 := fl_bd q 2 (by omega)
    have h2 := fl_bd u 4 (by omega)
    have h3 := fl_bd a 32 (by omega)
    have h4 := fl_bd d 64 (by omega)
    have h6 := fl_cases g 256
    have h7 := fl_cases n 9223372036854775808
    unfold packV; rw [fl_false]; omega
  unfold resV bt
  rw [e1, e2]
  simp

set_option maxHeartbeats 1000000 in
theorem walk (a0 : Int) (w0 : (Lit.int .u64 a0).wf = true) (a1p a1q a1u a1a a1d a1l a1g a1n : Bool) (a1f : Int) (w1 : (Lit.int .i64 a1f).wf = true) (a2 : Int) (w2 : (Lit.int .i64 a2).wf = true) (w : World) (ht : Tab w) :
    Calls Tryd.prog 8 #[.int .u64 a0, .agg #[.bool a1p, .bool a1q, .bool a1u, .bool a1a, .bool a1d, .bool a1l, .bool a1g, .bool a1n, .int .i64 a1f], .int .i64 a2] w fun e w' => e = .returned (.bool true) ∧ Below w.heap.size w w' := by
  have u0 := wf_u64 w0
  have hy := andNot_one a0 u0.1 u0.2
  have R1 : Hid (∀ w : World, Calls Tryd.prog 14 #[.int .u64 (bits .andNot .u64 a0 1), .int .i64 a2] w fun e w' => e = .returned (.bool false) ∧ w' = w) := fun w => by
    have := reserved_any (a0 - a0 % 2) a2 (by omega) (by omega) w
    rw [res_even _ _ (by omega)] at this
    rw [hy]; exact this
  have A := awake_c
  have T : Hid (Tab w) := ht
  obtain ⟨V, E, P, hc⟩ := pack_c a1p a1q a1u a1a a1d false a1g a1n a1f
  clear w0 w1 w2 hy ht
  rcases hc with ⟨f0, f1, rfl, hV, V0, V1⟩ | ⟨_, rfl, rfl⟩
  · have R2 : Hid (∀ w : World, Calls Tryd.prog 14 #[.int .u64 V, .int .i64 a2] w fun e w' => e = .returned (.bool false) ∧ w' = w) := fun w => by
      have := reserved_any V a2 V0 V1 w
      rw [hV, res_packed _ _ _ _ _ _ _ _ _ f0 f1] at this
      rw [hV]; exact this
    clear hV
    go_enter Tryd.func8, Tryd.ntmps8
    go_wp2_with fail
    refine (P.out _ (T.out.keep (Go.Joins.below_alloc1 _ _))).mono ?_
    rintro e w1 ⟨rfl, h1⟩
    have B1 : Hid (Below w.heap.size w w1) := below_then (Go.Joins.below_alloc1 _ _) h1
    clear h1
    go_wp2_with fail
    refine (A.out _ (T.out.keep B1.out)).mono ?_
    rintro e w2 ⟨rfl, h2⟩
    have B2 : Hid (Below w.heap.size w w2) := below_then B1.out h2
    clear h2
    go_wp2_with fail
    refine (R1.out _).mono ?_
    rintro e w3 ⟨rfl, rfl⟩
    go_wp2_with fail
    refine (R2.out _).mono ?_
    rintro e w4 ⟨rfl, rfl⟩
    go_wp2_with fail
    go_ret
    exact ⟨rfl, B2.out⟩
  · go_enter Tryd.func8, Tryd.ntmps8
    go_wp2_with fail
    refine (P.out _ (T.out.keep (Go.Joins.below_alloc1 _ _))).mono ?_
    rintro e w1 ⟨rfl, h1⟩
    have B1 : Hid (Below w.heap.size w w1) := below_then (Go.Joins.below_alloc1 _ _) h1
    clear h1
    go_wp2_with fail
    refine (A.out _ (T.out.keep B1.out)).mono ?_
    rintro e w2 ⟨rfl, h2⟩
    have B2 : Hid (Below w.heap.size w w2) := below_then B1.out h2
    clear h2
    go_wp2_with fail
    refine (R1.out _).mono ?_
    rintro e w3 ⟨rfl, rfl⟩
    go_wp2_with fail
    go_ret
    exact ⟨rfl, B2.out⟩

set_option maxRecDepth 100000 in
theorem lifted (os : Os) (started : os.Started) (H : Type) (enc : TypeId × Value → H) :
    ReturnsInHanded {} Tryd.checked os 8 .any (fun w args => (Rows.pteFreeSpec.pre enc Tryd.prog Tryd.f8 [] false w args ∧ laidMetH Tryd.prog laidL w) ∧ sizedMet enc Tryd.prog Tryd.f8 (OpenSpec.ofChange Rows.pteFreeSpec) false w args)
      (Rows.pteFreeSpec.post enc Tryd.prog Tryd.f8 false true false false) := by
  refine returnsInHanded_of_change_and (C := Tryd.checked) (X := fun w _ => laidMetH Tryd.prog laidL w) (fun _ _ _ hh h => h.of_heap hh) own started (by kernel_rfl) Tryd.func8
    (ChangeSpec.witness_shaped (enc := enc) (C := Tryd.checked) (os := os) (X := fun w _ => laidMetH Tryd.prog laidL w) false (World.doorLaid Tryd.prog 400 os) #[.int .u64 0, .agg #[.bool false, .bool false, .bool false, .bool false, .bool false, .bool false, .bool false, .bool false, .int .i64 0], .int .i64 0] 8 rfl (World.shaped_of_RefB (by kernel_rfl) (by kernel_rfl)) (by kernel_rfl) (by kernel_rfl) (by kernel_rfl) (door_met os _)) ?_
  intro W base args ds gs before hval0 hW _ _ hL _
  have hval : ∀ (j : Nat) t v, Tryd.f8.params[j]? = some t → args[j]? = some v → Value.okWide Tryd.prog W .any base t v := hval0
  have hW' := hW
  obtain ⟨p, q, hA0, hV, hbef, hfz, hnd⟩ := hW
  have hA : DataW.TrodAll enc Tryd.prog W 0 (fun _ => true) true Tryd.f8.params.toList args.toList ds p := hA0
  have hAk := hA
  have hlt : ∀ x ∈ p, x.block < W.heap.size := fun x hx => hW'.lt x (by rw [hbef]; exact List.mem_append_left _ hx)
  rw [Tryd.params8] at hA hval
  obtain ⟨v0, vs0, d0, ds0, p0, q0, hargs, rfl, hp0, h0, r0⟩ := trodAll_cons hA
  obtain ⟨v1, vs1, d1, ds1, p1, q1, rfl, rfl, hp1, h1, r1⟩ := trodAll_cons r0
  obtain ⟨v2, vs2, d2, ds2, p2, q2, rfl, rfl, hp2, h2, r2⟩ := trodAll_cons r1
  obtain ⟨rfl, rfl, hpz⟩ := trodAll_nil r2
  obtain rfl : args = #[v0, v1, v2] := by cases args; simp_all
  obtain ⟨rfl, rfl⟩ := trodVars_none hV
  obtain ⟨a0, rfl, _, _, w0⟩ := open_int Tryd.underlying24 (hval 0 24 v0 rfl rfl) h0
  obtain ⟨a1p, a1q, a1u, a1a, a1d, a1l, a1g, a1n, a1f, rfl, w1⟩ := open_entry (hval 1 23 v1 rfl rfl) h1
  obtain ⟨a2, rfl, _, _, w2⟩ := open_int Tryd.underlying3 (hval 2 3 v2 rfl rfl) h2
  clear hA0 hval0
  refine (walk a0 w0 a1p a1q a1u a1a a1d a1l a1g a1n a1f w1 a2 w2 W (of_laid hL)).mono fun e W' ⟨he, hg⟩ => ?_
  subst he
  exact ⟨_, rfl, ⟨_, _, _, [], p, [], hW', (trodAll_cons_mk (shut_bool Tryd.underlying4 _) trodAll_mk0), args_stay laidOut hg (by kernel_rfl) hAk hlt, rfl, hg.frame _, fun h => by cases h⟩⟩

theorem over : Rows.pteFreeRow.holds Tryd.pinned (OpenSpec.ofChange Rows.pteFreeSpec) :=
  OpenClaim.holds_of_wide 8 Tryd.f8 rfl rfl rfl rfl rfl rfl rfl ⟨rfl, rfl, rfl, rfl, rfl⟩ rfl rfl rfl rfl rfl (by kernel_rfl) Tryd.func8 (by kernel_rfl)
    (of_decide_eq_true (by kernel_rfl)) (by unfold Func.isWrapper; first | (rw [if_pos (by decide +kernel)]; kernel_rfl) | (rw [if_neg (by decide +kernel)]; exact ⟨rfl, rfl⟩))
    (fun os started H enc _ => lifted os started H enc)

theorem proved : Rows.PteFreeCardSaid :=
  Claim7.holds_tied_plain_at .later [] [.data] true (true, "5129a5eca379c96864e158ea4b1044541d75a34f8fa9236a7f9e539890485962") false
    over (fun _ h => by cases h) (by kernel_rfl) (fun _ h => by cases h) pteFree_row_tie rfl ⟨rfl, rfl⟩ (by kernel_rfl) rfl
    (fun f fn hf hfn => by
      obtain rfl : f = 8 := Option.some.inj ((show Tryd.prog.funcNamed "demesne/demesnelaw03.PteFree" = some 8 by kernel_rfl).symm.trans hf) |>.symm
      obtain rfl : fn = Tryd.f8 := (Option.some.inj (Tryd.func8.symm.trans hfn)).symm
      exact ⟨by kernel_rfl, fun j t ht => by
        rw [Tryd.params8] at ht
        have hm : t ∈ [24, 23, 3] := by simpa using Array.mem_of_getElem? ht
        have hall : ([24, 23, 3].all fun u => !Tryd.prog.wantsStandIn u) = true := by kernel_rfl
        exact (show Tryd.prog.wantsStandIn t = false by simpa using List.all_eq_true.1 hall t hm)⟩)
    (by kernel_rfl)
#print axioms proved
end Go.Proofs.YtnjoiknfaibheaaDoor.pteFree
