/- For any address and places: addresses are taken apart and put together as the document says it bit by bit; the table of the flags' bits as the program lays it. -/
import Derived.Test.YtnjoiknfaibheaaDoorRows
import Derived.Test.YtnjoiknfaibheaaDoorCards
import Derived.Test.YtnjoiknfaibheaaDoorTie
import Derived.ProofKit
import Derived.OpenShut
import Derived.Stop.Joined
import Derived.SevenTiedAt
import Derived.Test.YtnjoiknfaibheaaDoorP8
import Derived.Deep.RegionWith
import Derived.Deep.DeepMust
import Derived.Test.YtnjoiknfaibheaaDoorP11
namespace Go.Proofs.YtnjoiknfaibheaaDoor.pteAddresses
open Go.ChangeShapes Go.WideShapes Go.ChangeAt Go.RowKit
set_option linter.unusedSimpArgs false
set_option linter.unusedVariables false

set_option maxHeartbeats 8000000 in
theorem walk (a0 : Int) (w0 : (Lit.int .u64 a0).wf = true) (a1 : Int) (w1 : (Lit.int .i64 a1).wf = true) (a2 : Int) (w2 : (Lit.int .i64 a2).wf = true) (a3 : Int) (w3 : (Lit.int .i64 a3).wf = true) (a4 : Int) (w4 : (Lit.int .i64 a4).wf = true) (a5 : Int) (w5 : (Lit.int .i64 a5).wf = true) (w : World) (ht : Tab w) :
    Calls Tryd.prog 5 #[.int .u64 a0, .int .i64 a1, .int .i64 a2, .int .i64 a3, .int .i64 a4, .int .i64 a5] w fun e w' => e = .returned (.bool true) ∧ Below w.heap.size w w' := by
  have u0 := wf_u64 w0
  have A := awake_c
  have EQ := eq4
  have T : Hid (Tab w) := ht
  obtain ⟨p, hp⟩ : ∃ p, a0 / 4096 / 512 / 512 / 512 % 512 = p := ⟨_, rfl⟩
  obtain ⟨q, hq⟩ : ∃ q, a0 / 4096 / 512 / 512 % 512 = q := ⟨_, rfl⟩
  obtain ⟨r, hr⟩ : ∃ r, a0 / 4096 / 512 % 512 = r := ⟨_, rfl⟩
  obtain ⟨s, hs⟩ : ∃ s, a0 / 4096 % 512 = s := ⟨_, rfl⟩
  obtain ⟨o, ho⟩ : ∃ o, a0 % 4096 = o := ⟨_, rfl⟩
  have d1 : a0 / 4096 / 512 = a0 / 2097152 := by rw [Int.ediv_ediv_of_nonneg (by omega)]; rfl
  have d2 : a0 / 2097152 / 512 = a0 / 1073741824 := by rw [Int.ediv_ediv_of_nonneg (by omega)]; rfl
  have d3 : a0 / 1073741824 / 512 = a0 / 549755813888 := by rw [Int.ediv_ediv_of_nonneg (by omega)]; rfl
  have S1 : Hid (∀ w : World, Calls Tryd.prog 16 #[.int .u64 a0] w fun e w' => e = .returned (.tuple #[.agg #[.int .i64 p, .int .i64 q, .int .i64 r, .int .i64 s], .int .i64 o]) ∧ Below w.heap.size w w') := fun w => by
    rw [← hp, ← hq, ← hr, ← hs, ← ho]; exact split_any a0 u0.1 u0.2 w
  rw [d1] at hr hq hp
  rw [d2] at hq hp
  rw [d3] at hp
  have P39 : Hid (∀ w : World, Calls Tryd.prog 20 #[.int .u64 a0, .int .i64 39, .int .i64 9] w fun e w' => e = .returned (.int .i64 p) ∧ w' = w) := fun w => by
    have := part_any a0 u0.1 u0.2 39 9 (by omega) (by omega) w
    simp only [Int.reducePow, Int.pow_zero, Int.ediv_one] at this
    rw [hp] at this; exact this
  have P30 : Hid (∀ w : World, Calls Tryd.prog 20 #[.int .u64 a0, .int .i64 30, .int .i64 9] w fun e w' => e = .returned (.int .i64 q) ∧ w' = w) := fun w => by
    have := part_any a0 u0.1 u0.2 30 9 (by omega) (by omega) w
    simp only [Int.reducePow, Int.pow_zero, Int.ediv_one] at this
    rw [hq] at this; exact this
  have P21 : Hid (∀ w : World, Calls Tryd.prog 20 #[.int .u64 a0, .int .i64 21, .int .i64 9] w fun e w' => e = .returned (.int .i64 r) ∧ w' = w) := fun w => by
    have := part_any a0 u0.1 u0.2 21 9 (by omega) (by omega) w
    simp only [Int.reducePow, Int.pow_zero, Int.ediv_one] at this
    rw [hr] at this; exact this
  have P12 : Hid (∀ w : World, Calls Tryd.prog 20 #[.int .u64 a0, .int .i64 12, .int .i64 9] w fun e w' => e = .returned (.int .i64 s) ∧ w' = w) := fun w => by
    have := part_any a0 u0.1 u0.2 12 9 (by omega) (by omega) w
    simp only [Int.reducePow, Int.pow_zero, Int.ediv_one] at this
    rw [hs] at this; exact this
  have P0 : Hid (∀ w : World, Calls Tryd.prog 20 #[.int .u64 a0, .int .i64 0, .int .i64 12] w fun e w' => e = .returned (.int .i64 o) ∧ w' = w) := fun w => by
    have := part_any a0 u0.1 u0.2 0 12 (by omega) (by omega) w
    simp only [Int.reducePow, Int.pow_zero, Int.ediv_one] at this
    rw [ho] at this; exact this
  obtain ⟨Q, hQ⟩ : ∃ Q, (ext a0 == a0) = Q := ⟨_, rfl⟩
  have C1 : Hid (∀ w : World, Calls Tryd.prog 18 #[.int .u64 a0] w fun e w' => e = .returned (.bool Q) ∧ w' = w) := fun w => by rw [← hQ]; exact canonical_any a0 u0.1 u0.2 w
  have C2 : Hid (∀ w : World, Calls Tryd.prog 19 #[.int .u64 a0] w fun e w' => e = .returned (.bool Q) ∧ w' = w) := fun w => by rw [← hQ]; exact rcanonical_any a0 u0.1 u0.2 w
  clear hp hq hr hs ho d1 d2 d3 hQ w0 ht u0 w1 w2 w3 w4 w5
  obtain ⟨X, E, J1, hc⟩ : ∃ X E : Int, (Hid (∀ w : World, Calls Tryd.prog 17 #[.agg #[.int .i64 a1, .int .i64 a2, .int .i64 a3, .int .i64 a4], .int .i64 a5] w fun e w' => e = .returned (.tuple #[.int .u64 X, .int .i64 E]) ∧ Below w.heap.size w w')) ∧ ((0 ≤ a1 ∧ a1 < 512 ∧ 0 ≤ a2 ∧ a2 < 512 ∧ 0 ≤ a3 ∧ a3 < 512 ∧ 0 ≤ a4 ∧ a4 < 512 ∧ 0 ≤ a5 ∧ a5 < 4096 ∧ E = 0 ∧ Hid (∀ w : World, Calls Tryd.prog 21 #[.int .i64 a1, .int .i64 a2, .int .i64 a3, .int .i64 a4, .int .i64 a5] w fun e w' => e = .returned (.int .u64 X) ∧ w' = w)) ∨ (¬ (0 ≤ a1 ∧ a1 < 512 ∧ 0 ≤ a2 ∧ a2 < 512 ∧ 0 ≤ a3 ∧ a3 < 512 ∧ 0 ≤ a4 ∧ a4 < 512 ∧ 0 ≤ a5 ∧ a5 < 4096) ∧ E = 1 ∧ X = 0)) := by
    by_cases g : 0 ≤ a1 ∧ a1 < 512 ∧ 0 ≤ a2 ∧ a2 < 512 ∧ 0 ≤ a3 ∧ a3 < 512 ∧ 0 ≤ a4 ∧ a4 < 512 ∧ 0 ≤ a5 ∧ a5 < 4096
    · obtain ⟨g1, g2, g3, g4, g5, g6, g7, g8, g9, g10⟩ := g
      exact ⟨_, _, fun w => join_ok a1 a2 a3 a4 a5 g1 g2 g3 g4 g5 g6 g7 g8 g9 g10 w, Or.inl ⟨g1, g2, g3, g4, g5, g6, g7, g8, g9, g10, rfl, fun w => rjoin_ok a1 a2 a3 a4 a5 g1 g2 g3 g4 g5 g6 g7 g8 g9 g10 w⟩⟩
    · exact ⟨_, _, fun w => join_bad a1 a2 a3 a4 a5 g w, Or.inr ⟨g, rfl, rfl⟩⟩
  have HC : Hid _ := hc
  clear hc
  go_enter Tryd.func5, Tryd.ntmps5
  go_wp2_with fail
  refine (S1.out _).mono ?_
  rintro e w1 ⟨rfl, h1⟩
  have B1 : Hid (Below w.heap.size w w1) := below_then (by first | exact Below.refl _ _ | exact below_new (Below.refl _ _) _ | exact below_new2 (Below.refl _ _) _ _ | exact below_new (below_new2 (Below.refl _ _) _ _) _) h1
  clear h1
  go_wp2_with fail
  refine (J1.out _).mono ?_
  rintro e w2 ⟨rfl, h2⟩
  have za2 : w1.heap.size < w2.heap.size := Nat.lt_of_lt_of_le (by first | (simp; done) | (simp; omega)) h2.size
  have ca2_0 : w2.cell? ⟨w1.heap.size, 0, none⟩ = some (.int .i64 p) := cell_next h2 (by first | (simp; done) | (simp; omega)) (by first | (simp; done))
  have ca2_1 : w2.cell? ⟨w1.heap.size, 1, none⟩ = some (.int .i64 q) := cell_next h2 (by first | (simp; done) | (simp; omega)) (by first | (simp; done))
  have ca2_2 : w2.cell? ⟨w1.heap.size, 2, none⟩ = some (.int .i64 r) := cell_next h2 (by first | (simp; done) | (simp; omega)) (by first | (simp; done))
  have ca2_3 : w2.cell? ⟨w1.heap.size, 3, none⟩ = some (.int .i64 s) := cell_next h2 (by first | (simp; done) | (simp; omega)) (by first | (simp; done))
  have B2 : Hid (Below w.heap.size w w2) := below_then (by first | exact B1.out | exact below_new (B1.out) _ | exact below_new2 (B1.out) _ _ | exact below_new (below_new2 (B1.out) _ _) _) h2
  clear h2
  go_wp2_with fail
  go_region_with (first
    | (go_at_call 10; refine (A.out _ (T.out.keep (B2.out.trans (below_drew' _ _)))).mono ?_; rintro e w3 ⟨rfl, h3⟩; have ca3_0 : w3.cell? ⟨w1.heap.size, 0, none⟩ = some (.int .i64 p) := cell_next h3 za2 ca2_0; have ca3_1 : w3.cell? ⟨w1.heap.size, 1, none⟩ = some (.int .i64 q) := cell_next h3 za2 ca2_1; have ca3_2 : w3.cell? ⟨w1.heap.size, 2, none⟩ = some (.int .i64 r) := cell_next h3 za2 ca2_2; have ca3_3 : w3.cell? ⟨w1.heap.size, 3, none⟩ = some (.int .i64 s) := cell_next h3 za2 ca2_3; have B3 : Hid (Below w.heap.size w w3) := below_then (B2.out.trans (below_drew' _ _)) h3; clear h3)
    | (go_at_call 18; refine (C1.out _).mono ?_; rintro e w4 ⟨rfl, rfl⟩)
    | (go_at_call 19; refine (C2.out _).mono ?_; rintro e w4 ⟨rfl, rfl⟩)
    | (go_at_call 20; (first | (with_reducible refine (P39.out _).mono ?_) | (with_reducible refine (P30.out _).mono ?_) | (with_reducible refine (P21.out _).mono ?_) | (with_reducible refine (P12.out _).mono ?_) | (with_reducible refine (P0.out _).mono ?_)); rintro e w4 ⟨rfl, rfl⟩))
  all_goals
    clear C1 C2 P39 P30 P21 P12 P0 S1 J1 A EQ za2 ca2_0 ca2_1 ca2_2 ca2_3 ca3_0 ca3_1 ca3_2 ca3_3
    go_wp2_with fail
    rcases HC.out with ⟨g1, g2, g3, g4, g5, g6, g7, g8, g9, g10, rfl, J2⟩ | ⟨g, rfl, rfl⟩
    · have J2' : Hid _ := J2
      clear HC J2
      refine wp_loop_rounds 5 ?_
      rw [rounds_succ]; go_wp2_with fail
      rw [rounds_succ]; go_wp2_with fail
      rw [rounds_succ]; go_wp2_with fail
      rw [rounds_succ]; go_wp2_with fail
      rw [rounds_succ]; go_wp2_with fail
      refine (J2'.out _).mono ?_
      rintro e w9 ⟨rfl, rfl⟩
      go_wp2_with fail
      go_ret
      exact ⟨by simp, by first | exact B3.out | exact below_new (B3.out) _ | exact below_new2 (B3.out) _ _ | exact below_new (below_new2 (B3.out) _ _) _⟩
    · have G : Hid (¬ (0 ≤ a1 ∧ a1 < 512 ∧ 0 ≤ a2 ∧ a2 < 512 ∧ 0 ≤ a3 ∧ a3 < 512 ∧ 0 ≤ a4 ∧ a4 < 512 ∧ 0 ≤ a5 ∧ a5 < 4096)) := g
      clear g HC
      refine wp_loop_rounds 5 ?_
      rw [rounds_succ]
      go_wp2_with fail
      all_goals first
        | (go_ret; exact ⟨rfl, by first | exact B3.out | exact below_new (B3.out) _ | exact below_new2 (B3.out) _ _ | exact below_new (below_new2 (B3.out) _ _) _⟩)
        | skip
      all_goals
        rw [rounds_succ]
        go_wp2_with fail
      all_goals first
        | (go_ret; exact ⟨rfl, by first | exact B3.out | exact below_new (B3.out) _ | exact below_new2 (B3.out) _ _ | exact below_new (below_new2 (B3.out) _ _) _⟩)
        | skip
      all_goals
        rw [rounds_succ]
        go_wp2_with fail
      all_goals first
        | (go_ret; exact ⟨rfl, by first | exact B3.out | exact below_new (B3.out) _ | exact below_new2 (B3.out) _ _ | exact below_new (below_new2 (B3.out) _ _) _⟩)
        | skip
      all_goals
        rw [rounds_succ]
        go_wp2_with fail
      all_goals first
        | (go_ret; exact ⟨rfl, by first | exact B3.out | exact below_new (B3.out) _ | exact below_new2 (B3.out) _ _ | exact below_new (below_new2 (B3.out) _ _) _⟩)
        | skip
      all_goals
        rw [rounds_succ]
        go_wp2_with fail
      all_goals first
        | (go_ret; exact ⟨rfl, by first | exact B3.out | exact below_new (B3.out) _ | exact below_new2 (B3.out) _ _ | exact below_new (below_new2 (B3.out) _ _) _⟩)
        | (exfalso; have gg : ¬ (0 ≤ a1 ∧ a1 < 512 ∧ 0 ≤ a2 ∧ a2 < 512 ∧ 0 ≤ a3 ∧ a3 < 512 ∧ 0 ≤ a4 ∧ a4 < 512 ∧ 0 ≤ a5 ∧ a5 < 4096) := G.out; omega)

set_option maxRecDepth 100000 in
theorem lifted (os : Os) (started : os.Started) (H : Type) (enc : TypeId × Value → H) :
    ReturnsInHanded {} Tryd.checked os 5 .any (fun w args => (Rows.pteAddressesSpec.pre enc Tryd.prog Tryd.f5 [] false w args ∧ laidMetH Tryd.prog laidL w) ∧ sizedMet enc Tryd.prog Tryd.f5 (OpenSpec.ofChange Rows.pteAddressesSpec) false w args)
      (Rows.pteAddressesSpec.post enc Tryd.prog Tryd.f5 false true false false) := by
  refine returnsInHanded_of_change_and (C := Tryd.checked) (X := fun w _ => laidMetH Tryd.prog laidL w) (fun _ _ _ hh h => h.of_heap hh) own started (by kernel_rfl) Tryd.func5
    (ChangeSpec.witness_shaped (enc := enc) (C := Tryd.checked) (os := os) (X := fun w _ => laidMetH Tryd.prog laidL w) false (World.doorLaid Tryd.prog 400 os) #[.int .u64 0, .int .i64 0, .int .i64 0, .int .i64 0, .int .i64 0, .int .i64 0] 8 rfl (World.shaped_of_RefB (by kernel_rfl) (by kernel_rfl)) (by kernel_rfl) (by kernel_rfl) (by kernel_rfl) (door_met os _)) ?_
  intro W base args ds gs before hval0 hW _ _ hL _
  have hval : ∀ (j : Nat) t v, Tryd.f5.params[j]? = some t → args[j]? = some v → Value.okWide Tryd.prog W .any base t v := hval0
  have hW' := hW
  obtain ⟨p, q, hA0, hV, hbef, hfz, hnd⟩ := hW
  have hA : DataW.TrodAll enc Tryd.prog W 0 (fun _ => true) true Tryd.f5.params.toList args.toList ds p := hA0
  have hAk := hA
  have hlt : ∀ x ∈ p, x.block < W.heap.size := fun x hx => hW'.lt x (by rw [hbef]; exact List.mem_append_left _ hx)
  rw [Tryd.params5] at hA hval
  obtain ⟨v0, vs0, d0, ds0, p0, q0, hargs, rfl, hp0, h0, r0⟩ := trodAll_cons hA
  obtain ⟨v1, vs1, d1, ds1, p1, q1, rfl, rfl, hp1, h1, r1⟩ := trodAll_cons r0
  obtain ⟨v2, vs2, d2, ds2, p2, q2, rfl, rfl, hp2, h2, r2⟩ := trodAll_cons r1
  obtain ⟨v3, vs3, d3, ds3, p3, q3, rfl, rfl, hp3, h3, r3⟩ := trodAll_cons r2
  obtain ⟨v4, vs4, d4, ds4, p4, q4, rfl, rfl, hp4, h4, r4⟩ := trodAll_cons r3
  obtain ⟨v5, vs5, d5, ds5, p5, q5, rfl, rfl, hp5, h5, r5⟩ := trodAll_cons r4
  obtain ⟨rfl, rfl, hpz⟩ := trodAll_nil r5
  obtain rfl : args = #[v0, v1, v2, v3, v4, v5] := by cases args; simp_all
  obtain ⟨rfl, rfl⟩ := trodVars_none hV
  obtain ⟨a0, rfl, _, _, w0⟩ := open_int Tryd.underlying24 (hval 0 24 v0 rfl rfl) h0
  obtain ⟨a1, rfl, _, _, w1⟩ := open_int Tryd.underlying3 (hval 1 3 v1 rfl rfl) h1
  obtain ⟨a2, rfl, _, _, w2⟩ := open_int Tryd.underlying3 (hval 2 3 v2 rfl rfl) h2
  obtain ⟨a3, rfl, _, _, w3⟩ := open_int Tryd.underlying3 (hval 3 3 v3 rfl rfl) h3
  obtain ⟨a4, rfl, _, _, w4⟩ := open_int Tryd.underlying3 (hval 4 3 v4 rfl rfl) h4
  obtain ⟨a5, rfl, _, _, w5⟩ := open_int Tryd.underlying3 (hval 5 3 v5 rfl rfl) h5
  clear hA0 hval0
  refine (walk a0 w0 a1 w1 a2 w2 a3 w3 a4 w4 a5 w5 W (of_laid hL)).mono fun e W' ⟨he, hg⟩ => ?_
  subst he
  exact ⟨_, rfl, ⟨_, _, _, [], p, [], hW', (trodAll_cons_mk (shut_bool Tryd.underlying4 _) trodAll_mk0), args_stay laidOut hg (by kernel_rfl) hAk hlt, rfl, hg.frame _, fun h => by cases h⟩⟩

theorem over : Rows.pteAddressesRow.holds Tryd.pinned (OpenSpec.ofChange Rows.pteAddressesSpec) :=
  OpenClaim.holds_of_wide 5 Tryd.f5 rfl rfl rfl rfl rfl rfl rfl ⟨rfl, rfl, rfl, rfl, rfl⟩ rfl rfl rfl rfl rfl (by kernel_rfl) Tryd.func5 (by kernel_rfl)
    (of_decide_eq_true (by kernel_rfl)) (by unfold Func.isWrapper; first | (rw [if_pos (by decide +kernel)]; kernel_rfl) | (rw [if_neg (by decide +kernel)]; exact ⟨rfl, rfl⟩))
    (fun os started H enc _ => lifted os started H enc)

theorem proved : Rows.PteAddressesCardSaid :=
  Claim7.holds_tied_plain_at .later [] [.data] true (true, "5129a5eca379c96864e158ea4b1044541d75a34f8fa9236a7f9e539890485962") false
    over (fun _ h => by cases h) (by kernel_rfl) (fun _ h => by cases h) pteAddresses_row_tie rfl ⟨rfl, rfl⟩ (by kernel_rfl) rfl
    (fun f fn hf hfn => by
      obtain rfl : f = 5 := Option.some.inj ((show Tryd.prog.funcNamed "demesne/demesnelaw03.PteAddresses" = some 5 by kernel_rfl).symm.trans hf) |>.symm
      obtain rfl : fn = Tryd.f5 := (Option.some.inj (Tryd.func5.symm.trans hfn)).symm
      exact ⟨by kernel_rfl, fun j t ht => by
        rw [Tryd.params5] at ht
        have hm : t ∈ [24, 3, 3, 3, 3, 3] := by simpa using Array.mem_of_getElem? ht
        have hall : ([24, 3, 3, 3, 3, 3].all fun u => !Tryd.prog.wantsStandIn u) = true := by kernel_rfl
        exact (show Tryd.prog.wantsStandIn t = false by simpa using List.all_eq_true.1 hall t hm)⟩)
    (by kernel_rfl)
#print axioms proved
end Go.Proofs.YtnjoiknfaibheaaDoor.pteAddresses
