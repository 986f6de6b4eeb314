/- For any bytes: what Parse answers of (at most 1400 of) them is what the document's words give: the same error's number, and the same areas in their order; no condition. -/
import Derived.Test.YtkgjeemecpigpaaRows
import Derived.ProofKit
import Derived.OpenShut
import Derived.Carry
import Derived.Test.YtkgjeemecpigpaaON
import Derived.Sort.BigQuietIn
namespace Go.Proofs.Ytkgjeemecpigpaa.bootmapParses
open Go.ChangeShapes Go.WideShapes Go.ChangeAt Go.RowKit Go.Maps
set_option linter.unusedSimpArgs false
set_option linter.unusedVariables false
open Go.Proofs.Ytkgjeemecpigpaa.Bm
theorem some_bool (p : Prop) : ∃ z : Bool, z = true ↔ p := ⟨@decide p (Classical.propDecidable p), by simp⟩
theorem eqU64 (d : Nat) (a b : Int) (W : World) : (Op.equalIn (d + 1) 32 (.int .u64 a) (.int .u64 b)).run Try.prog W = .ok (a == b) W := run_equalIn_int W d _ .u64 .u64 a b Try.underlying32
theorem eqU32 (d : Nat) (a b : Int) (W : World) : (Op.equalIn (d + 1) 33 (.int .u32 a) (.int .u32 b)).run Try.prog W = .ok (a == b) W := run_equalIn_int W d _ .u32 .u32 a b Try.underlying33
theorem eqAr (d : Nat) (a b c : Int) (W : World) : (Op.equalIn (d + 2) 35 (.agg #[.int .u64 a, .int .u64 b, .int .u32 c]) (.agg #[.int .u64 a, .int .u64 b, .int .u32 c])).run Try.prog W = .ok true W := by
  rw [run_equalIn_struct W (d + 1) 35 _ _ (by kernel_rfl) (by kernel_rfl)]
  have p0 : ∀ (x y z : Value) (W : World), (part 32 #[x, y, z] 0).run Try.prog W = .ok x W := fun x y z W => by kernel_rfl
  have p1 : ∀ (x y z : Value) (W : World), (part 32 #[x, y, z] 1).run Try.prog W = .ok y W := fun x y z W => by kernel_rfl
  have p2 : ∀ (x y z : Value) (W : World), (part 33 #[x, y, z] 2).run Try.prog W = .ok z W := fun x y z W => by kernel_rfl
  simp only [Program.fieldsOf, Try.underlying35]
  simp [Op.eqFields, p0, p1, p2, eqU64, eqU32]
theorem neAr (a b c : Int) (W : World) : (binOp .neq 35 (.agg #[.int .u64 a, .int .u64 b, .int .u32 c]) (.agg #[.int .u64 a, .int .u64 b, .int .u32 c])).run Try.prog W = .ok (.bool false) W := by
  have := eqAr 9998 a b c W
  simp only [binOp, Op.equal, Sem.run_bind]
  rw [show Op.maxDepth = 9998 + 2 from rfl, this]; rfl

set_option maxRecDepth 8000 in
set_option maxHeartbeats 1000000 in
theorem walk (p0 : Option Addr) (n0 c0 : Nat) (B0 : Nat → Int) (m0 : n0 ≤ maxLen) (l0 : n0 ≤ c0) (w : World) (H0 : IsByts w p0 n0 B0) :
    Calls Try.prog 3 #[.slice p0 n0 c0] w fun e w' => e = .returned (.bool true) ∧ Below w.heap.size w w' := by
  obtain ⟨S0, Y0⟩ := byts_src H0
  have C0 : Hid (_) := cut_any p0 n0 c0 ((List.range n0).map B0) (by simp) l0 w S0
  have HY : Hid (Byt (((List.range n0).map B0).take 1400)) := fun x hx => Y0 x (List.mem_of_mem_take hx)
  generalize (List.range n0).map B0 = L0 at C0 HY
  have AC : Hid (∀ W : World, _) := fun W => awake_any W
  clear H0 S0 Y0
  go_enter Try.func3, Try.ntmps3
  go_wp2_with fail
  refine Calls.mono C0.out ?_
  rintro e w1 ⟨g, c, rfl, O0, hb⟩
  have BW : Hid (Below w.heap.size w w1) := hb
  generalize L0.take 1400 = L at O0 HY
  obtain ⟨n, hn⟩ : ∃ n, L.length = n := ⟨_, rfl⟩
  rw [hn] at O0 ⊢
  obtain ⟨lg, lc, cs, _⟩ := bl_cells hn.symm O0
  have PC : Hid _ := parse_any g 0 n c (BL L) (bl_bd HY.out) lc w1 lg cs
  have QC : Hid (∀ W : World, Below w1.heap.size w1 W → _) := fun W hb => rparse_any g 0 n c (BL L) (bl_bd HY.out) lc W (Nat.lt_of_lt_of_le lg hb.size) (fun i hi => (hb.cell (p := ⟨g, 0 + i, none⟩) lg).trans (cs i hi))
  have HWF : Hid (n ≤ 1280 → (areasL (BL L) (n / 20)).length ≤ 64) := fun h => by rw [areas_len]; omega
  clear O0 hb C0 lg lc cs hn
  go_wp2_with fail
  refine Calls.mono PC.out ?_
  rintro e w2 ⟨v1, z, A, rfl, R1, pz, hb⟩
  have HB2 : Hid (Below w1.heap.size w1 w2) := hb
  have R1H : Hid (LL 3 eA w2 0 v1 A) := R1.low (Nat.zero_le _)
  have HP : Hid (PZ (BL L) n z A) := pz
  clear R1 pz hb PC
  go_wp2_with fail
  refine Calls.mono (QC.out w2 HB2.out) ?_
  rintro e w3 ⟨v2, z2, A2, rfl, R2, pz, hb⟩
  obtain ⟨e1, e2⟩ := HP.out.one pz
  subst e1
  subst e2
  have R2H : Hid (LL 3 eA w3 0 v2 A) := R2.low (Nat.zero_le _)
  have R1K : Hid (LL 3 eA w3 0 v1 A) := R1H.out.below hb
  have BW3 : Hid (Below w.heap.size w w3) := below_then (below_then BW.out HB2.out) hb
  have LA : Hid (A.length ≤ 64) := by
    show _ ≤ _
    rcases HP.out with ⟨a, b, c⟩ | ⟨a, d, b, c⟩ | ⟨a, d, _, b, c⟩ | ⟨a, d, e, b, c⟩
    · rw [c]; simp
    · rw [c]; simp
    · rw [c]; simp
    · rw [c]; exact HWF.out a
  clear R2 pz hb QC HP HWF BW HB2 R1H HY
  go_wp2_with fail
  refine Calls.mono (AC.out _) ?_
  rintro e w4 ⟨rfl, hb⟩
  have R2 : Hid (LL 3 eA w4 0 v2 A) := R2H.out.below hb
  have R1 : Hid (LL 3 eA w4 0 v1 A) := R1K.out.below hb
  have BW : Hid (Below w.heap.size w w4) := below_then BW3.out hb
  clear hb R2H R1K BW3
  obtain ⟨p, c1, hv, _, _, rd⟩ := R1.out.form
  obtain ⟨p', c2, hv', _, _, rd'⟩ := R2.out.form
  have RD : Hid (∀ i (hi : i < A.length), ∃ g o, p = some ⟨g, o, none⟩ ∧ 0 ≤ g ∧ g < w4.heap.size ∧ ∀ j, j < 3 → w4.cell? ⟨g, o + i * 3 + j, none⟩ = (eA A[i])[j]?) := rd
  have RD' : Hid (∀ i (hi : i < A.length), ∃ g o, p' = some ⟨g, o, none⟩ ∧ 0 ≤ g ∧ g < w4.heap.size ∧ ∀ j, j < 3 → w4.cell? ⟨g, o + i * 3 + j, none⟩ = (eA A[i])[j]?) := rd'
  obtain ⟨m, em⟩ : ∃ m, A.length = m := ⟨_, rfl⟩
  have HM : Hid (A.length = m) := em
  have m9 : m ≤ 64 := by rw [← em]; exact LA.out
  rw [em] at hv hv'
  subst hv
  subst hv'
  have dz : (z != z) = false := by simp
  have dm : ((m : Int) != (m : Int)) = false := by simp
  have hne := fun a b c W => neAr a b c W
  clear rd rd' R1 R2 em LA
  go_wp2_with fail
  go_loopw [7, 36] (fun _ i W => ∃ j : Nat, j ≤ m ∧ i = .int .i64 j ∧ Hid (Below w4.heap.size w4 W)) (fun _ i _ => m - (Go.RowKit.intOf i).toNat)
  case atStart => exact ⟨0, by omega, rfl, Below.refl _ _⟩
  case round =>
    obtain ⟨j, hj, rfl, hb⟩ := hrel
    by_cases cj : j < m
    rotate_left
    · obtain rfl : j = m := by omega
      have dj : decide ((j : Int) < (j : Int)) = false := by simp
      go_wp2_with fail
      go_ret
      exact ⟨rfl, below_then BW.out hb.out⟩
    have dj : decide ((j : Int) < (m : Int)) = true := decide_eq_true (by omega)
    have d0 : decide ((j : Int) < 0) = false := by simp
    have jL : j < A.length := by rw [HM.out]; exact cj
    obtain ⟨g1, og, rfl, _, lg, rc⟩ := RD.out j jL
    obtain ⟨g2, og', rfl, _, lg', rc'⟩ := RD'.out j jL
    have y0 : wr.cell? ⟨g1, og + j * 3, none⟩ = some (.int .u64 A[j].f) := (World.cell?_of_block (hb.out.block g1 lg)).trans (rc 0 (by omega))
    have y1 : wr.cell? ⟨g1, og + j * 3 + 1, none⟩ = some (.int .u64 A[j].l) := (World.cell?_of_block (hb.out.block g1 lg)).trans (rc 1 (by omega))
    have y2 : wr.cell? ⟨g1, og + j * 3 + 2, none⟩ = some (.int .u32 A[j].k) := (World.cell?_of_block (hb.out.block g1 lg)).trans (rc 2 (by omega))
    have z0 : wr.cell? ⟨g2, og' + j * 3, none⟩ = some (.int .u64 A[j].f) := (World.cell?_of_block (hb.out.block g2 lg')).trans (rc' 0 (by omega))
    have z1 : wr.cell? ⟨g2, og' + j * 3 + 1, none⟩ = some (.int .u64 A[j].l) := (World.cell?_of_block (hb.out.block g2 lg')).trans (rc' 1 (by omega))
    have z2 : wr.cell? ⟨g2, og' + j * 3 + 2, none⟩ = some (.int .u32 A[j].k) := (World.cell?_of_block (hb.out.block g2 lg')).trans (rc' 2 (by omega))
    clear rc rc' lg lg'
    generalize A[j].f = xf at *
    generalize A[j].l = xl at *
    generalize A[j].k = xk at *
    go_wp2_with fail
    go_quiet (fail)
    go_wp2_with fail
    go_roundw
    case rel => exact ⟨j + 1, by omega, by go_num, Bm.below_drewN hb.out⟩
    case measure => simp [Go.RowKit.intOf]; omega

theorem own : ownKnob Try.prog.godebug = none := by kernel_rfl
theorem laidOut : laidOutB Try.prog = true := by kernel_rfl
set_option maxRecDepth 100000 in
theorem lifted (os : Os) (started : os.Started) (H : Type) (enc : TypeId × Value → H) :
    ReturnsInHanded {} Try.checked os 3 .any (Rows.bootmapParsesSpec.pre6 enc Try.prog Try.f3 Rows.bootmapParsesRow.domain false) (Rows.bootmapParsesSpec.post enc Try.prog Try.f3 false true false false) := by
  refine returnsInHanded_of_change (C := Try.checked) own started (by kernel_rfl) Try.func3
    (ChangeSpec.witness6 (enc := enc) (C := Try.checked) false ⟨#[], #[.slice none 0 0], []⟩ 8 (by kernel_rfl) (by kernel_rfl) (by kernel_rfl) (by kernel_rfl)) ?_
  intro W base args ds gs before hval0 hW hcnd _
  have hval : ∀ (j : Nat) t v, Try.f3.params[j]? = some t → args[j]? = some v → Value.okWide Try.prog W .any base t v := hval0
  have hW' := hW
  obtain ⟨p, q, hA0, hV, hbef, hfz, hnd⟩ := hW
  have hA : DataW.TrodAll enc Try.prog W 0 (fun _ => true) true Try.f3.params.toList args.toList ds p := hA0
  have hAk := hA
  have hlt : ∀ x ∈ p, x.block < W.heap.size := fun x hx => hW'.lt x (by rw [hbef]; exact List.mem_append_left _ hx)
  rw [Try.params3] at hA hval
  obtain ⟨v0, vs0, d0, ds0, p0, q0, hargs, rfl, hp0, h0, r0⟩ := trodAll_cons hA
  obtain ⟨rfl, rfl, hpz⟩ := trodAll_nil r0
  obtain rfl : args = #[v0] := by cases args; simp_all
  obtain ⟨rfl, rfl⟩ := trodVars_none hV
  obtain ⟨p0, n0, c0, B0, rfl, m0, l0, H0⟩ := open_byts (hval 0 22 v0 rfl rfl) h0
  clear hA0 hval0
  refine (walk p0 n0 c0 B0 m0 l0 W H0).mono fun e W' ⟨he, hg⟩ => ?_
  subst he
  exact ⟨_, rfl, ⟨_, _, _, [], p, [], hW', (trodAll_cons_mk (shut_bool Try.underlying4 _) trodAll_mk0), args_stay laidOut hg (by kernel_rfl) hAk hlt, rfl, hg.frame _, fun h => by cases h⟩⟩

theorem over : Rows.bootmapParsesRow.holds Try.pinned (OpenSpec.ofChange Rows.bootmapParsesSpec) :=
  OpenClaim.holds_of_wide 3 Try.f3 rfl rfl rfl rfl rfl rfl rfl ⟨rfl, rfl, rfl, rfl, rfl⟩ rfl rfl rfl rfl rfl (by kernel_rfl) Try.func3 (by kernel_rfl)
    (of_decide_eq_true (by kernel_rfl)) (by unfold Func.isWrapper; first | (rw [if_pos (by decide +kernel)]; kernel_rfl) | (rw [if_neg (by decide +kernel)]; exact ⟨rfl, rfl⟩))
    (fun os started H enc _ => lifted os started H enc)

theorem proved : Rows.BootmapParsesSaid :=
  over
#print axioms proved
end Go.Proofs.Ytkgjeemecpigpaa.bootmapParses
