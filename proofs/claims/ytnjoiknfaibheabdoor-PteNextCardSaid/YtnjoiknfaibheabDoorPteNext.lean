/- For any address: the next page's address has the next number for level 1, carried on into the levels above; the table of the flags' bits as the program lays it. -/
import Derived.Test.YtnjoiknfaibheabDoorRows
import Derived.Test.YtnjoiknfaibheabDoorCards
import Derived.Test.YtnjoiknfaibheabDoorTie
import Derived.ProofKit
import Derived.OpenShut
import Derived.Stop.Joined
import Derived.SevenTiedAt
import Derived.Test.YtnjoiknfaibheabDoorP7
namespace Go.Proofs.YtnjoiknfaibheabDoor.pteNext
open Go.ChangeShapes Go.WideShapes Go.ChangeAt Go.RowKit
set_option linter.unusedSimpArgs false
set_option linter.unusedVariables false
theorem mod512 (z : Int) : 0 ≤ z % 512 ∧ z % 512 < 512 := by omega
theorem number (z : Int) (z0 : 0 ≤ z) (z1 : z < 140737488355328) : ((z / 4096 / 512 / 512 / 512 % 512 * 512 + z / 4096 / 512 / 512 % 512) * 512 + z / 4096 / 512 % 512) * 512 + z / 4096 % 512 = z / 4096 := by
  have h := parts_join z
  have e : z % 281474976710656 = z := by omega
  rw [e] at h
  generalize z / 4096 / 512 / 512 / 512 % 512 = a at *
  generalize z / 4096 / 512 / 512 % 512 = b at *
  generalize z / 4096 / 512 % 512 = c at *
  generalize z / 4096 % 512 = d at *
  omega
theorem digits (z : Int) (z0 : 0 ≤ z) (z1 : z < 140737488355328) : ∃ a b c d o : Int, (Hid (∀ w : World, Calls Tryd.prog 6 #[.int .u64 z] w fun e w' => e = .returned (.tuple #[.agg #[.int .i64 a, .int .i64 b, .int .i64 c, .int .i64 d], .int .i64 o]) ∧ Below w.heap.size w w')) ∧ (0 ≤ a ∧ a < 512) ∧ (0 ≤ b ∧ b < 512) ∧ (0 ≤ c ∧ c < 512) ∧ (0 ≤ d ∧ d < 512) ∧ ((a * 512 + b) * 512 + c) * 512 + d = z / 4096 ∧ o = z % 4096 :=
  ⟨_, _, _, _, _, fun w => split_any z z0 (by omega) w, mod512 _, mod512 _, mod512 _, mod512 _, number z z0 z1, rfl⟩

set_option maxHeartbeats 1000000 in
theorem walk (a0 : Int) (w0 : (Lit.int .u64 a0).wf = true) (w : World) (ht : Tab w) :
    Calls Tryd.prog 3 #[.int .u64 a0] w fun e w' => e = .returned (.bool true) ∧ Below w.heap.size w w' := by
  have u0 := wf_u64 w0
  have A := awake_c
  have T : Hid (Tab w) := ht
  obtain ⟨z, hz⟩ : ∃ z, a0 % 140737488351232 = z := ⟨_, rfl⟩
  have z0 : 0 ≤ z := by omega
  have z1 : z < 140737488351232 := by omega
  obtain ⟨x0, x1, x2, x3, o, S1, ⟨g0, g1⟩, ⟨g2, g3⟩, ⟨g4, g5⟩, ⟨g6, g7⟩, n1, o1⟩ := digits z z0 (by omega)
  obtain ⟨y0, y1, y2, y3, o', S2, ⟨k0, k1⟩, ⟨k2, k3⟩, ⟨k4, k5⟩, ⟨k6, k7⟩, n2, o2⟩ := digits (z + 4096) (by omega) (by omega)
  obtain rfl : o' = o := by rw [o2, o1]; clear n1 n2; omega
  have n3 : ((y0 * 512 + y1) * 512 + y2) * 512 + y3 = z / 4096 + 1 := by rw [n2]; clear n1 n2; omega
  have N1 : Hid (((x0 * 512 + x1) * 512 + x2) * 512 + x3 = z / 4096) := n1
  have N3 : Hid (((y0 * 512 + y1) * 512 + y2) * 512 + y3 = z / 4096 + 1) := n3
  have hz' : a0.tmod 140737488351232 = z := by rw [Int.tmod_eq_emod_of_nonneg u0.1]; exact hz
  clear w0 ht u0 n1 n2 n3 o1 o2 hz
  go_enter Tryd.func3, Tryd.ntmps3
  go_wp2_with fail
  refine (S1.out _).mono ?_
  rintro e w1 ⟨rfl, h1⟩
  have B1 : Hid (Below w.heap.size w w1) := below_then (by first | exact Below.refl _ _ | exact below_new (Below.refl _ _) _ | exact below_new2 (Below.refl _ _) _ _ | exact below_new (below_new2 (Below.refl _ _) _ _) _) h1
  clear h1
  go_wp2_with fail
  refine (S2.out _).mono ?_
  rintro e w2 ⟨rfl, h2⟩
  have za2 : w1.heap.size < w2.heap.size := Nat.lt_of_lt_of_le (by first | (simp; done) | (simp; omega)) h2.size
  have ca2_0 : w2.cell? ⟨w1.heap.size, 0, none⟩ = some (.int .i64 x0) := cell_next h2 (by first | (simp; done) | (simp; omega)) (by first | (simp; done))
  have ca2_1 : w2.cell? ⟨w1.heap.size, 1, none⟩ = some (.int .i64 x1) := cell_next h2 (by first | (simp; done) | (simp; omega)) (by first | (simp; done))
  have ca2_2 : w2.cell? ⟨w1.heap.size, 2, none⟩ = some (.int .i64 x2) := cell_next h2 (by first | (simp; done) | (simp; omega)) (by first | (simp; done))
  have ca2_3 : w2.cell? ⟨w1.heap.size, 3, none⟩ = some (.int .i64 x3) := cell_next h2 (by first | (simp; done) | (simp; omega)) (by first | (simp; done))
  have B2 : Hid (Below w.heap.size w w2) := below_then (by first | exact B1.out | exact below_new (B1.out) _ | exact below_new2 (B1.out) _ _ | exact below_new (below_new2 (B1.out) _ _) _) h2
  clear h2
  go_wp2_with fail
  refine (A.out _ (T.out.keep (by first | exact B2.out | exact below_new (B2.out) _ | exact below_new2 (B2.out) _ _ | exact below_new (below_new2 (B2.out) _ _) _))).mono ?_
  rintro e w3 ⟨rfl, h3⟩
  have B3 : Hid (Below w.heap.size w w3) := below_then (by first | exact B2.out | exact below_new (B2.out) _ | exact below_new2 (B2.out) _ _ | exact below_new (below_new2 (B2.out) _ _) _) h3
  clear h3
  have N1' := N1.out
  have N3' := N3.out
  go_wp2_with fail
  go_ret
  exact ⟨rfl, by first | exact B3.out | exact below_new (B3.out) _ | exact below_new2 (B3.out) _ _ | exact below_new (below_new2 (B3.out) _ _) _⟩

set_option maxRecDepth 100000 in
theorem lifted (os : Os) (started : os.Started) (H : Type) (enc : TypeId × Value → H) :
    ReturnsInHanded {} Tryd.checked os 3 .any (fun w args => (Rows.pteNextSpec.pre enc Tryd.prog Tryd.f3 [] false w args ∧ laidMetH Tryd.prog laidL w) ∧ sizedMet enc Tryd.prog Tryd.f3 (OpenSpec.ofChange Rows.pteNextSpec) false w args)
      (Rows.pteNextSpec.post enc Tryd.prog Tryd.f3 false true false false) := by
  refine returnsInHanded_of_change_and (C := Tryd.checked) (X := fun w _ => laidMetH Tryd.prog laidL w) (fun _ _ _ hh h => h.of_heap hh) own started (by kernel_rfl) Tryd.func3
    (ChangeSpec.witness_shaped (enc := enc) (C := Tryd.checked) (os := os) (X := fun w _ => laidMetH Tryd.prog laidL w) false (World.doorLaid Tryd.prog 400 os) #[.int .u64 0] 8 rfl (World.shaped_of_RefB (by kernel_rfl) (by kernel_rfl)) (by kernel_rfl) (by kernel_rfl) (by kernel_rfl) (door_met os _)) ?_
  intro W base args ds gs before hval0 hW _ _ hL _
  have hval : ∀ (j : Nat) t v, Tryd.f3.params[j]? = some t → args[j]? = some v → Value.okWide Tryd.prog W .any base t v := hval0
  have hW' := hW
  obtain ⟨p, q, hA0, hV, hbef, hfz, hnd⟩ := hW
  have hA : DataW.TrodAll enc Tryd.prog W 0 (fun _ => true) true Tryd.f3.params.toList args.toList ds p := hA0
  have hAk := hA
  have hlt : ∀ x ∈ p, x.block < W.heap.size := fun x hx => hW'.lt x (by rw [hbef]; exact List.mem_append_left _ hx)
  rw [Tryd.params3] at hA hval
  obtain ⟨v0, vs0, d0, ds0, p0, q0, hargs, rfl, hp0, h0, r0⟩ := trodAll_cons hA
  obtain ⟨rfl, rfl, hpz⟩ := trodAll_nil r0
  obtain rfl : args = #[v0] := by cases args; simp_all
  obtain ⟨rfl, rfl⟩ := trodVars_none hV
  obtain ⟨a0, rfl, _, _, w0⟩ := open_int Tryd.underlying22 (hval 0 22 v0 rfl rfl) h0
  clear hA0 hval0
  refine (walk a0 w0 W (of_laid hL)).mono fun e W' ⟨he, hg⟩ => ?_
  subst he
  exact ⟨_, rfl, ⟨_, _, _, [], p, [], hW', (trodAll_cons_mk (shut_bool Tryd.underlying4 _) trodAll_mk0), args_stay laidOut hg (by kernel_rfl) hAk hlt, rfl, hg.frame _, fun h => by cases h⟩⟩

theorem over : Rows.pteNextRow.holds Tryd.pinned (OpenSpec.ofChange Rows.pteNextSpec) :=
  OpenClaim.holds_of_wide 3 Tryd.f3 rfl rfl rfl rfl rfl rfl rfl ⟨rfl, rfl, rfl, rfl, rfl⟩ rfl rfl rfl rfl rfl (by kernel_rfl) Tryd.func3 (by kernel_rfl)
    (of_decide_eq_true (by kernel_rfl)) (by unfold Func.isWrapper; first | (rw [if_pos (by decide +kernel)]; kernel_rfl) | (rw [if_neg (by decide +kernel)]; exact ⟨rfl, rfl⟩))
    (fun os started H enc _ => lifted os started H enc)

theorem proved : Rows.PteNextCardSaid :=
  Claim7.holds_tied_plain_at .later [] [.data] true (true, "9ed83ff48ac6890a3ed9680d7f8e0cf9fe25f4c2e3898ec45edd79a0e356e5a9") false
    over (fun _ h => by cases h) (by kernel_rfl) (fun _ h => by cases h) pteNext_row_tie rfl ⟨rfl, rfl⟩ (by kernel_rfl) rfl
    (fun f fn hf hfn => by
      obtain rfl : f = 3 := Option.some.inj ((show Tryd.prog.funcNamed "demesne/demesnelaw03.PteNext" = some 3 by kernel_rfl).symm.trans hf) |>.symm
      obtain rfl : fn = Tryd.f3 := (Option.some.inj (Tryd.func3.symm.trans hfn)).symm
      exact ⟨by kernel_rfl, fun j t ht => by
        rw [Tryd.params3] at ht
        have hm : t ∈ [22] := by simpa using Array.mem_of_getElem? ht
        have hall : ([22].all fun u => !Tryd.prog.wantsStandIn u) = true := by kernel_rfl
        exact (show Tryd.prog.wantsStandIn t = false by simpa using List.all_eq_true.1 hall t hm)⟩)
    (by kernel_rfl)
#print axioms proved
end Go.Proofs.YtnjoiknfaibheabDoor.pteNext
