/- For any entry and number: an entry goes and comes back, a number too but for bits that say nothing; the table of the flags' bits as the program lays it. -/
import Derived.Test.YtnjoiknfaibheaaDoorRows
import Derived.Test.YtnjoiknfaibheaaDoorCards
import Derived.Test.YtnjoiknfaibheaaDoorTie
import Derived.ProofKit
import Derived.OpenShut
import Derived.Stop.Joined
import Derived.SevenTiedAt
import Derived.Test.YtnjoiknfaibheaaDoorP6
import Derived.Deep.RegionWith
import Derived.Deep.DeepMust
namespace Go.Proofs.YtnjoiknfaibheaaDoor.pteBack
open Go.ChangeShapes Go.WideShapes Go.ChangeAt Go.RowKit
set_option linter.unusedSimpArgs false
set_option linter.unusedVariables false
theorem cell_keep {B b i : Nat} {w w' : World} (h : Below B w w') (hb : b < B) : w'.cell? ⟨b, i, none⟩ = w.cell? ⟨b, i, none⟩ := by
  have e : w'.heap[b]? = w.heap[b]? := h.block b hb
  simp [World.cell?, e]

set_option maxHeartbeats 1000000 in
theorem walk (a0p a0q a0u a0a a0d a0l a0g a0n : Bool) (a0f : Int) (w0 : (Lit.int .i64 a0f).wf = true) (a1 : Int) (w1 : (Lit.int .u64 a1).wf = true) (w : World) (ht : Tab w) :
    Calls Tryd.prog 6 #[.agg #[.bool a0p, .bool a0q, .bool a0u, .bool a0a, .bool a0d, .bool a0l, .bool a0g, .bool a0n, .int .i64 a0f], .int .u64 a1] w fun e w' => e = .returned (.bool true) ∧ Below w.heap.size w w' := by
  have u1 := wf_u64 w1
  have A := awake_c
  have T : Hid (Tab w) := ht
  obtain ⟨V, E, P, hc⟩ := pack_c a0p a0q a0u a0a a0d a0l a0g a0n a0f
  have U2 : Hid (∀ w : World, Tab w → Calls Tryd.prog 11 #[.int .u64 a1] w fun e w' => e = .returned (unp a1) ∧ Below w.heap.size w w') := fun w ht => unpack_any a1 u1.1 u1.2 w ht
  have P2 : Hid (∀ w : World, Tab w → Calls Tryd.prog 9 #[unp a1] w fun e w' => e = .returned (.tuple #[.int .u64 (bits .and .u64 a1 9223372041149739495), .int .i64 0]) ∧ Below w.heap.size w w') := fun w ht => by
    rw [and_says a1 u1.1 u1.2]
    exact pack_ok _ _ _ _ _ _ _ _ _ (by omega) (by omega) w ht
  generalize unp a1 = Y at *
  generalize hZ : bits .and .u64 a1 9223372041149739495 = Z at *
  clear w0 w1 u1 ht
  rcases hc with ⟨f0, f1, rfl, hV, V0, V1⟩ | ⟨_, rfl, rfl⟩
  · have U1 : Hid (∀ w : World, Tab w → Calls Tryd.prog 11 #[.int .u64 V] w fun e w' => e = .returned (.agg #[.bool a0p, .bool a0q, .bool a0u, .bool a0a, .bool a0d, .bool a0l, .bool a0g, .bool a0n, .int .i64 a0f]) ∧ Below w.heap.size w w') := fun w ht => by
      have := unpack_any V V0 V1 w ht
      rw [hV, unp_pack _ _ _ _ _ _ _ _ _ f0 f1] at this
      rw [hV]; exact this
    clear hV
    go_enter Tryd.func6, Tryd.ntmps6
    go_wp2_with fail
    refine (P.out _ (T.out.keep (by first | exact Below.refl _ _ | exact below_new (Below.refl _ _) _ | exact below_new2 (Below.refl _ _) _ _ | exact below_new (below_new2 (Below.refl _ _) _ _) _))).mono ?_
    rintro e w1 ⟨rfl, h1⟩
    have l0 : w1.cell? ⟨w.heap.size, 0, none⟩ = some (.bool a0p) := by rw [cell_keep h1 (by simp)]; simp
    have l1 : w1.cell? ⟨w.heap.size, 1, none⟩ = some (.bool a0q) := by rw [cell_keep h1 (by simp)]; simp
    have l2 : w1.cell? ⟨w.heap.size, 2, none⟩ = some (.bool a0u) := by rw [cell_keep h1 (by simp)]; simp
    have l3 : w1.cell? ⟨w.heap.size, 3, none⟩ = some (.bool a0a) := by rw [cell_keep h1 (by simp)]; simp
    have l4 : w1.cell? ⟨w.heap.size, 4, none⟩ = some (.bool a0d) := by rw [cell_keep h1 (by simp)]; simp
    have l5 : w1.cell? ⟨w.heap.size, 5, none⟩ = some (.bool a0l) := by rw [cell_keep h1 (by simp)]; simp
    have l6 : w1.cell? ⟨w.heap.size, 6, none⟩ = some (.bool a0g) := by rw [cell_keep h1 (by simp)]; simp
    have l7 : w1.cell? ⟨w.heap.size, 7, none⟩ = some (.bool a0n) := by rw [cell_keep h1 (by simp)]; simp
    have l8 : w1.cell? ⟨w.heap.size, 8, none⟩ = some (.int .i64 a0f) := by rw [cell_keep h1 (by simp)]; simp
    have S1 : w.heap.size < w1.heap.size := Nat.lt_of_lt_of_le (by simp) h1.size
    have B1 : Hid (Below w.heap.size w w1) := below_then (by first | exact Below.refl _ _ | exact below_new (Below.refl _ _) _ | exact below_new2 (Below.refl _ _) _ _ | exact below_new (below_new2 (Below.refl _ _) _ _) _) h1
    clear h1
    go_wp2_with fail
    go_region_with (go_at_call 11; go_must (refine (U1.out _ (T.out.keep (B1.out.trans (below_drew' _ _)))).mono ?_; rintro e w2 ⟨rfl, h2⟩; have m0 : w2.cell? ⟨w.heap.size, 0, none⟩ = some (.bool a0p) := (cell_keep h2 S1).trans l0; have m1 : w2.cell? ⟨w.heap.size, 1, none⟩ = some (.bool a0q) := (cell_keep h2 S1).trans l1; have m2 : w2.cell? ⟨w.heap.size, 2, none⟩ = some (.bool a0u) := (cell_keep h2 S1).trans l2; have m3 : w2.cell? ⟨w.heap.size, 3, none⟩ = some (.bool a0a) := (cell_keep h2 S1).trans l3; have m4 : w2.cell? ⟨w.heap.size, 4, none⟩ = some (.bool a0d) := (cell_keep h2 S1).trans l4; have m5 : w2.cell? ⟨w.heap.size, 5, none⟩ = some (.bool a0l) := (cell_keep h2 S1).trans l5; have m6 : w2.cell? ⟨w.heap.size, 6, none⟩ = some (.bool a0g) := (cell_keep h2 S1).trans l6; have m7 : w2.cell? ⟨w.heap.size, 7, none⟩ = some (.bool a0n) := (cell_keep h2 S1).trans l7; have m8 : w2.cell? ⟨w.heap.size, 8, none⟩ = some (.int .i64 a0f) := (cell_keep h2 S1).trans l8))
    all_goals
      have B2 : Hid (Below w.heap.size w w2) := below_then (B1.out.trans (below_drew' _ _)) h2
      clear h2 m0 m1 m2 m3 m4 m5 m6 m7 m8 l0 l1 l2 l3 l4 l5 l6 l7 l8 S1
      go_wp2_with fail
      refine (U2.out _ (T.out.keep (by first | exact B2.out | exact below_new (B2.out) _ | exact below_new2 (B2.out) _ _ | exact below_new (below_new2 (B2.out) _ _) _))).mono ?_
      rintro e w3 ⟨rfl, h3⟩
      have B3 : Hid (Below w.heap.size w w3) := below_then (by first | exact B2.out | exact below_new (B2.out) _ | exact below_new2 (B2.out) _ _ | exact below_new (below_new2 (B2.out) _ _) _) h3
      clear h3
      go_wp2_with fail
      refine (P2.out _ (T.out.keep (by first | exact B3.out | exact below_new (B3.out) _ | exact below_new2 (B3.out) _ _ | exact below_new (below_new2 (B3.out) _ _) _))).mono ?_
      rintro e w4 ⟨rfl, h4⟩
      have B4 : Hid (Below w.heap.size w w4) := below_then (by first | exact B3.out | exact below_new (B3.out) _ | exact below_new2 (B3.out) _ _ | exact below_new (below_new2 (B3.out) _ _) _) h4
      clear h4
      go_wp2_with fail
      refine (A.out _ (T.out.keep (by first | exact B4.out | exact below_new (B4.out) _ | exact below_new2 (B4.out) _ _ | exact below_new (below_new2 (B4.out) _ _) _))).mono ?_
      rintro e w5 ⟨rfl, h5⟩
      have B5 : Hid (Below w.heap.size w w5) := below_then (by first | exact B4.out | exact below_new (B4.out) _ | exact below_new2 (B4.out) _ _ | exact below_new (below_new2 (B4.out) _ _) _) h5
      clear h5
      go_wp2_with fail
      go_ret
      exact ⟨by simp, by first | exact B5.out | exact below_new (B5.out) _ | exact below_new2 (B5.out) _ _ | exact below_new (below_new2 (B5.out) _ _) _⟩
  · skip
    go_enter Tryd.func6, Tryd.ntmps6
    go_wp2_with fail
    refine (P.out _ (T.out.keep (by first | exact Below.refl _ _ | exact below_new (Below.refl _ _) _ | exact below_new2 (Below.refl _ _) _ _ | exact below_new (below_new2 (Below.refl _ _) _ _) _))).mono ?_
    rintro e w1 ⟨rfl, h1⟩
    have B1 : Hid (Below w.heap.size w w1) := below_then (by first | exact Below.refl _ _ | exact below_new (Below.refl _ _) _ | exact below_new2 (Below.refl _ _) _ _ | exact below_new (below_new2 (Below.refl _ _) _ _) _) h1
    clear h1
    go_wp2_with fail
    go_region
    have B2 : Hid (Below w.heap.size w w1.drew) := B1.out.trans (below_drew' _ _)
    go_wp2_with fail
    refine (U2.out _ (T.out.keep (by first | exact B2.out | exact below_new (B2.out) _ | exact below_new2 (B2.out) _ _ | exact below_new (below_new2 (B2.out) _ _) _))).mono ?_
    rintro e w3 ⟨rfl, h3⟩
    have B3 : Hid (Below w.heap.size w w3) := below_then (by first | exact B2.out | exact below_new (B2.out) _ | exact below_new2 (B2.out) _ _ | exact below_new (below_new2 (B2.out) _ _) _) h3
    clear h3
    go_wp2_with fail
    refine (P2.out _ (T.out.keep (by first | exact B3.out | exact below_new (B3.out) _ | exact below_new2 (B3.out) _ _ | exact below_new (below_new2 (B3.out) _ _) _))).mono ?_
    rintro e w4 ⟨rfl, h4⟩
    have B4 : Hid (Below w.heap.size w w4) := below_then (by first | exact B3.out | exact below_new (B3.out) _ | exact below_new2 (B3.out) _ _ | exact below_new (below_new2 (B3.out) _ _) _) h4
    clear h4
    go_wp2_with fail
    refine (A.out _ (T.out.keep (by first | exact B4.out | exact below_new (B4.out) _ | exact below_new2 (B4.out) _ _ | exact below_new (below_new2 (B4.out) _ _) _))).mono ?_
    rintro e w5 ⟨rfl, h5⟩
    have B5 : Hid (Below w.heap.size w w5) := below_then (by first | exact B4.out | exact below_new (B4.out) _ | exact below_new2 (B4.out) _ _ | exact below_new (below_new2 (B4.out) _ _) _) h5
    clear h5
    go_wp2_with fail
    go_ret
    exact ⟨by simp, by first | exact B5.out | exact below_new (B5.out) _ | exact below_new2 (B5.out) _ _ | exact below_new (below_new2 (B5.out) _ _) _⟩

set_option maxRecDepth 100000 in
theorem lifted (os : Os) (started : os.Started) (H : Type) (enc : TypeId × Value → H) :
    ReturnsInHanded {} Tryd.checked os 6 .any (fun w args => (Rows.pteBackSpec.pre enc Tryd.prog Tryd.f6 [] false w args ∧ laidMetH Tryd.prog laidL w) ∧ sizedMet enc Tryd.prog Tryd.f6 (OpenSpec.ofChange Rows.pteBackSpec) false w args)
      (Rows.pteBackSpec.post enc Tryd.prog Tryd.f6 false true false false) := by
  refine returnsInHanded_of_change_and (C := Tryd.checked) (X := fun w _ => laidMetH Tryd.prog laidL w) (fun _ _ _ hh h => h.of_heap hh) own started (by kernel_rfl) Tryd.func6
    (ChangeSpec.witness_shaped (enc := enc) (C := Tryd.checked) (os := os) (X := fun w _ => laidMetH Tryd.prog laidL w) false (World.doorLaid Tryd.prog 400 os) #[.agg #[.bool false, .bool false, .bool false, .bool false, .bool false, .bool false, .bool false, .bool false, .int .i64 0], .int .u64 0] 8 rfl (World.shaped_of_RefB (by kernel_rfl) (by kernel_rfl)) (by kernel_rfl) (by kernel_rfl) (by kernel_rfl) (door_met os _)) ?_
  intro W base args ds gs before hval0 hW _ _ hL _
  have hval : ∀ (j : Nat) t v, Tryd.f6.params[j]? = some t → args[j]? = some v → Value.okWide Tryd.prog W .any base t v := hval0
  have hW' := hW
  obtain ⟨p, q, hA0, hV, hbef, hfz, hnd⟩ := hW
  have hA : DataW.TrodAll enc Tryd.prog W 0 (fun _ => true) true Tryd.f6.params.toList args.toList ds p := hA0
  have hAk := hA
  have hlt : ∀ x ∈ p, x.block < W.heap.size := fun x hx => hW'.lt x (by rw [hbef]; exact List.mem_append_left _ hx)
  rw [Tryd.params6] at hA hval
  obtain ⟨v0, vs0, d0, ds0, p0, q0, hargs, rfl, hp0, h0, r0⟩ := trodAll_cons hA
  obtain ⟨v1, vs1, d1, ds1, p1, q1, rfl, rfl, hp1, h1, r1⟩ := trodAll_cons r0
  obtain ⟨rfl, rfl, hpz⟩ := trodAll_nil r1
  obtain rfl : args = #[v0, v1] := by cases args; simp_all
  obtain ⟨rfl, rfl⟩ := trodVars_none hV
  obtain ⟨a0p, a0q, a0u, a0a, a0d, a0l, a0g, a0n, a0f, rfl, w0⟩ := open_entry (hval 0 23 v0 rfl rfl) h0
  obtain ⟨a1, rfl, _, _, w1⟩ := open_int Tryd.underlying24 (hval 1 24 v1 rfl rfl) h1
  clear hA0 hval0
  refine (walk a0p a0q a0u a0a a0d a0l a0g a0n a0f w0 a1 w1 W (of_laid hL)).mono fun e W' ⟨he, hg⟩ => ?_
  subst he
  exact ⟨_, rfl, ⟨_, _, _, [], p, [], hW', (trodAll_cons_mk (shut_bool Tryd.underlying4 _) trodAll_mk0), args_stay laidOut hg (by kernel_rfl) hAk hlt, rfl, hg.frame _, fun h => by cases h⟩⟩

theorem over : Rows.pteBackRow.holds Tryd.pinned (OpenSpec.ofChange Rows.pteBackSpec) :=
  OpenClaim.holds_of_wide 6 Tryd.f6 rfl rfl rfl rfl rfl rfl rfl ⟨rfl, rfl, rfl, rfl, rfl⟩ rfl rfl rfl rfl rfl (by kernel_rfl) Tryd.func6 (by kernel_rfl)
    (of_decide_eq_true (by kernel_rfl)) (by unfold Func.isWrapper; first | (rw [if_pos (by decide +kernel)]; kernel_rfl) | (rw [if_neg (by decide +kernel)]; exact ⟨rfl, rfl⟩))
    (fun os started H enc _ => lifted os started H enc)

theorem proved : Rows.PteBackCardSaid :=
  Claim7.holds_tied_plain_at .later [] [.data] true (true, "5129a5eca379c96864e158ea4b1044541d75a34f8fa9236a7f9e539890485962") false
    over (fun _ h => by cases h) (by kernel_rfl) (fun _ h => by cases h) pteBack_row_tie rfl ⟨rfl, rfl⟩ (by kernel_rfl) rfl
    (fun f fn hf hfn => by
      obtain rfl : f = 6 := Option.some.inj ((show Tryd.prog.funcNamed "demesne/demesnelaw03.PteBack" = some 6 by kernel_rfl).symm.trans hf) |>.symm
      obtain rfl : fn = Tryd.f6 := (Option.some.inj (Tryd.func6.symm.trans hfn)).symm
      exact ⟨by kernel_rfl, fun j t ht => by
        rw [Tryd.params6] at ht
        have hm : t ∈ [23, 24] := by simpa using Array.mem_of_getElem? ht
        have hall : ([23, 24].all fun u => !Tryd.prog.wantsStandIn u) = true := by kernel_rfl
        exact (show Tryd.prog.wantsStandIn t = false by simpa using List.all_eq_true.1 hall t hm)⟩)
    (by kernel_rfl)
#print axioms proved
end Go.Proofs.YtnjoiknfaibheaaDoor.pteBack
