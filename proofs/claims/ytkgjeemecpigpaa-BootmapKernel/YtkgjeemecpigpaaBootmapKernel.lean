/- For any bytes, any number of frames and any kernel's range: what Frames answers of (at most 1400 of) the bytes has no frame of the kernel's and none beyond the memory; where it answers an error it has none; and without the kernel it has those and just the kernel's beside them; no condition. -/
import Derived.Test.YtkgjeemecpigpaaRows
import Derived.ProofKit
import Derived.OpenShut
import Derived.Carry
import Derived.Test.YtkgjeemecpigpaaOH
import Derived.Sort.BigQuietIn
namespace Go.Proofs.Ytkgjeemecpigpaa.bootmapKernel
open Go.ChangeShapes Go.WideShapes Go.ChangeAt Go.RowKit Go.Maps
set_option linter.unusedSimpArgs false
set_option linter.unusedVariables false
open Go.Proofs.Ytkgjeemecpigpaa.Bm
theorem some_bool (p : Prop) : ∃ z : Bool, z = true ↔ p := ⟨@decide p (Classical.propDecidable p), by simp⟩
theorem fz_bounds {B : Nat → Int} {n : Nat} {F : Int} {k : Int × Int} {M : List (Int × Int)} (h : FZ B n F k 0 M) (hB : ∀ i, 0 ≤ B i ∧ B i < 256) : (∀ x, Has M x → 0 ≤ x ∧ x < F ∧ ¬ (k.1 ≤ x ∧ x < k.2)) ∧ Bm.Can M ∧ M ≠ [] := by
  rcases h with ⟨a, b, c⟩ | ⟨a, y, A, p, q, b, c⟩ | ⟨a, A, p, q, r, b⟩
  · cases b
  · exact absurd b.symm q
  · refine ⟨fun x hx => ?_, q, fun e => ?_⟩
    · obtain ⟨h1, h2⟩ := (r x).1 hx
      obtain ⟨u, hu, u1, u2⟩ := h1
      unfold useL at hu
      obtain ⟨y, hy, rfl⟩ := List.mem_map.1 hu
      obtain ⟨n1, n2, n3, n4⟩ := p.ok
      have wf := areas_wf hB (n / 20) y (by rw [← n4]; exact (List.mem_filter.1 hy).1)
      refine ⟨?_, ?_, fun hk => h2 ⟨k, List.mem_cons_self, hk⟩⟩
      · have := wf.1.1
        have u1' : (y.f + 4095) / 4096 ≤ x := u1
        omega
      · have u2' : x < min ((y.f + y.l) / 4096) F := u2
        omega
    · subst e; simp at b
theorem fz_kernel {B : Nat → Int} {n : Nat} {F : Int} {k : Int × Int} {z : Int} {M N : List (Int × Int)} (h : FZ B n F k 0 M) (h' : FZ B n F (0, 0) z N) : z = 0 ∧ ∀ x, Has M x ↔ Has N x ∧ ¬ Has [k] x := by
  rcases h with ⟨a, b, c⟩ | ⟨a, y, A, p, q, b, c⟩ | ⟨a, A, p, q, r, b⟩
  · cases b
  · exact absurd b.symm q
  have g0 : Bm.Good F (0, 0) := ⟨a.1, a.2.1, Int.le_refl _, Int.le_refl _, by have := a.1; show (0 : Int) ≤ F; omega⟩
  rcases h' with ⟨a', b', c'⟩ | ⟨a', y', A', p', q', b', c'⟩ | ⟨a', A', p', q', r', b'⟩
  · exact absurd g0 a'
  · exact absurd (p'.one p).1 q'
  obtain rfl := (p.one p').2
  have s : ∀ x, Has M x ↔ Has N x ∧ ¬ Has [k] x := fun x => by
    rw [r x, r' x]
    unfold FR awayL
    rw [has_cons, has_cons, has_one]
    constructor
    · rintro ⟨h1, h2⟩
      exact ⟨⟨h1, fun q => q.elim (fun q => by omega) (fun q => h2 (Or.inr q))⟩, fun q => h2 (Or.inl q)⟩
    · rintro ⟨⟨h1, h2⟩, h3⟩
      exact ⟨h1, fun q => q.elim h3 (fun q => h2 (Or.inr q))⟩
  refine ⟨?_, s⟩
  have : M ≠ [] := fun e => by subst e; simp at b
  rw [b', if_neg]
  intro e
  have : N = [] := List.eq_nil_of_length_eq_zero e
  subst this
  cases M with
  | nil => simp at b
  | cons hd M => exact absurd ((s hd.1).1 (can_head q)).1 (has_nil _)

set_option maxRecDepth 8000 in
set_option maxHeartbeats 8000000 in
theorem walk (p0 : Option Addr) (n0 c0 : Nat) (B0 : Nat → Int) (m0 : n0 ≤ maxLen) (l0 : n0 ≤ c0) (a1 : Int) (w1 : (Lit.int .i64 a1).wf = true) (a2a a2b : Int) (w2a : (Lit.int .i64 a2a).wf = true) (w2b : (Lit.int .i64 a2b).wf = true) (w : World) (H0 : IsByts w p0 n0 B0) :
    Calls Try.prog 8 #[.slice p0 n0 c0, .int .i64 a1, .agg #[.int .i64 a2a, .int .i64 a2b]] w fun e w' => e = .returned (.bool true) ∧ Below w.heap.size w w' := by
  obtain ⟨S0, Y0⟩ := byts_src H0
  have C0 : Hid (_) := cut_any p0 n0 c0 ((List.range n0).map B0) (by simp) l0 (w.alloc (.cells #[.int .i64 a2a, .int .i64 a2b] 44)) (S0.below (Go.Joins.below_alloc1 _ _))
  have HY : Hid (Byt (((List.range n0).map B0).take 1400)) := fun x hx => Y0 x (List.mem_of_mem_take hx)
  generalize (List.range n0).map B0 = L0 at C0 HY
  have AC : Hid (∀ W : World, _) := fun W => awake_any W
  have KB : Hid (Blk (w.alloc (.cells #[.int .i64 a2a, .int .i64 a2b] 44)) w.heap.size [.int .i64 a2a, .int .i64 a2b] 44 ∧ Below w.heap.size w (w.alloc (.cells #[.int .i64 a2a, .int .i64 a2b] 44))) := ⟨Blk.made w [.int .i64 a2a, .int .i64 a2b] 44, Go.Joins.below_alloc1 _ _⟩
  clear H0 S0 Y0
  go_enter Try.func8, Try.ntmps8
  go_wp2_with fail
  refine Calls.mono C0.out ?_
  rintro e w1 ⟨g0, k0, rfl, O0, hb⟩
  have BX : Hid (Blk w1 w.heap.size [.int .i64 a2a, .int .i64 a2b] 44) := KB.out.1.below hb
  have BW : Hid (Below w.heap.size w w1) := below_then KB.out.2 hb
  obtain ⟨L, hLL⟩ : ∃ L, L0.take 1400 = L := ⟨_, rfl⟩
  rw [hLL] at O0 HY ⊢
  obtain ⟨n, hn⟩ : ∃ n, L.length = n := ⟨_, rfl⟩
  have HN : Hid (n = L.length) := hn.symm
  rw [hn] at O0 ⊢
  have OB : Hid (OL 5 1 eB w1 (w.alloc (.cells #[.int .i64 a2a, .int .i64 a2b] 44)).heap.size (.slice (some ⟨g0, 0, none⟩) n k0) L) := O0
  have FC : Hid (∀ (k1 k2 : Int) (W : World), Below w1.heap.size w1 W → _) := fun k1 k2 W hb => frames_own g0 n k0 _ L HN.out HY.out a1 k1 k2 W (row_below OB.out hb)
  clear O0 hb C0 KB hLL hn
  have z0 : w1.cell? ⟨w.heap.size, 0, none⟩ = some (.int .i64 a2a) := BX.out.cell 0
  have z1 : w1.cell? ⟨w.heap.size, 1, none⟩ = some (.int .i64 a2b) := BX.out.cell 1
  go_wp2_with fail
  refine Calls.mono (FC.out a2a a2b w1 (Below.refl _ _)) ?_
  rintro e w2 ⟨v7, z, M, rfl, R7, fz, m9, hb⟩
  clear z0 z1
  have KW : Hid (Below w1.heap.size w1 w1) := Below.refl _ _
  have BXq : Hid (Blk w2 w.heap.size [.int .i64 a2a, .int .i64 a2b] 44) := BX.out.below hb
  have BWq : Hid (Below w.heap.size w w2) := below_then BW.out hb
  have KWq : Hid (Below w1.heap.size w1 w2) := below_then KW.out hb
  clear BX BW KW
  have BX := BXq
  have BW := BWq
  have KW := KWq
  clear BXq BWq KWq
  have RM : Hid (RL w2 0 v7 M) := R7.low (Nat.zero_le _)
  have HFZ : Hid (FZ (BL L) n a1 (a2a, a2b) z M ∧ M.length ≤ 5000) := ⟨fz, m9⟩
  have HBB : Hid (∀ i, 0 ≤ BL L i ∧ BL L i < 256) := bl_bd HY.out
  clear R7 fz m9 hb
  by_cases cz : z = 0
  rotate_left
  · have e1 : (z != 0) = true := by simp [cz]
    obtain rfl : M = [] := HFZ.out.1.none cz
    obtain ⟨p7, c7, hv7, _, _, _⟩ := RM.out.form
    have hv7 : v7 = .slice p7 0 c7 := hv7
    subst hv7
    go_wp2_with fail
    refine Calls.mono (AC.out _) ?_
    rintro e u1 ⟨rfl, hb⟩
    have BWu : Hid (Below w.heap.size w u1) := below_then BW.out hb
    clear hb
    go_wp2_with fail
    go_ret
    exact ⟨rfl, BWu.out⟩
  subst cz
  have FB := fz_bounds HFZ.out.1 HBB.out
  have HFB : Hid (_) := FB
  clear FB
  obtain ⟨pm, cm, hvm, _, _, rd⟩ := RM.out.form
  have RD : Hid (∀ i (hi : i < M.length), ∃ g o, pm = some ⟨g, o, none⟩ ∧ 0 ≤ g ∧ g < w2.heap.size ∧ ∀ j, j < 2 → w2.cell? ⟨g, o + i * 2 + j, none⟩ = (eR M[i])[j]?) := rd
  obtain ⟨m, hm⟩ : ∃ m, M.length = m := ⟨_, rfl⟩
  have HM : Hid (M.length = m) := hm
  have m9 : m ≤ 5000 := by rw [← hm]; exact HFZ.out.2
  rw [hm] at hvm
  have RM2 : Hid (RL w2 0 (.slice pm m cm) M) := by rw [← hvm]; exact RM.out
  subst hvm
  clear RM rd hm
  go_wp2_with fail
  go_loopw [10, 32] (fun _ i W => ∃ k : Nat, k ≤ m ∧ i = .int .i64 k ∧ Hid (Below w2.heap.size w2 W)) (fun _ i _ => m - (Go.RowKit.intOf i).toNat)
  case atStart => exact ⟨0, by omega, rfl, Below.refl _ _⟩
  case round =>
    obtain ⟨k, hk, rfl, J⟩ := hrel
    by_cases ck : k < m
    · have dk : decide ((k : Int) < (m : Int)) = true := decide_eq_true (by omega)
      have d0 : decide ((k : Int) < 0) = false := by simp
      have kS : k < M.length := by rw [HM.out]; exact ck
      obtain ⟨g, og, rfl, _, lg, rc⟩ := RD.out k kS
      have y0 : wr.cell? ⟨g, og + k * 2, none⟩ = some (.int .i64 M[k].1) := (World.cell?_of_block (J.out.block g lg)).trans (rc 0 (by omega))
      have y1 : wr.cell? ⟨g, og + k * 2 + 1, none⟩ = some (.int .i64 M[k].2) := (World.cell?_of_block (J.out.block g lg)).trans (rc 1 (by omega))
      have x0 : wr.cell? ⟨w.heap.size, 0, none⟩ = some (.int .i64 a2a) := (BX.out.below J.out).cell 0
      have x1 : wr.cell? ⟨w.heap.size, 1, none⟩ = some (.int .i64 a2b) := (BX.out.below J.out).cell 1
      have lgr : g < wr.heap.size := Nat.lt_of_lt_of_le lg J.out.size
      have lwr : w.heap.size < wr.heap.size := blk_lt (BX.out.below J.out)
      have ne := HFB.out.2.1.1 M[k] (List.getElem_mem kS)
      have b1 := HFB.out.1 M[k].1 ⟨M[k], List.getElem_mem kS, Int.le_refl _, ne⟩
      have b2 := HFB.out.1 (M[k].2 - 1) ⟨M[k], List.getElem_mem kS, by omega, by omega⟩
      have all : ∀ x, M[k].1 ≤ x → x < M[k].2 → ¬ (a2a ≤ x ∧ x < a2b) := fun x h1 h2 => (HFB.out.1 x ⟨M[k], List.getElem_mem kS, h1, h2⟩).2.2
      have e1 : decide (M[k].1 < 0) = false := decide_eq_false (by omega)
      have e2 : decide (a1 < M[k].2) = false := decide_eq_false (by omega)
      have e3 : decide (max M[k].1 a2a < min M[k].2 a2b) = false := decide_eq_false (fun q => by
        have := all (max M[k].1 a2a) (by omega) (by omega)
        apply this
        omega)
      have J2 : Hid (Below w2.heap.size w2 (wr.alloc (.cells #[.int .i64 M[k].1, .int .i64 M[k].2] 44))) := below_new J.out _
      clear rc ne b1 b2 all
      generalize M[k].1 = a at *
      generalize M[k].2 = b at *
      go_wp2_with fail
      go_roundw
      case rel => exact ⟨k + 1, by omega, by go_num, J2⟩
      case measure => simp [Go.RowKit.intOf]; omega
    · obtain rfl : k = m := by omega
      have dk : decide ((k : Int) < (k : Int)) = false := by simp
      have RM2q : Hid (RL wr 0 (.slice pm k cm) M) := RM2.out.below J.out
      have BWq : Hid (Below w.heap.size w wr) := below_then BW.out J.out
      have BXq : Hid (Blk wr w.heap.size [.int .i64 a2a, .int .i64 a2b] 44) := BX.out.below J.out
      have KWq : Hid (Below w1.heap.size w1 wr) := below_then KW.out J.out
      clear RM2 BW BX KW
      have RM2 := RM2q
      have BW := BWq
      have BX := BXq
      have KW := KWq
      clear RM2q BWq BXq KWq
      clear J RD
      go_wp2_with fail
      refine Calls.mono (FC.out 0 0 wr KW.out) ?_
      rintro e w4 ⟨v11, z4, N, rfl, R11, fz, n9, hb⟩
      have RM2q : Hid (RL w4 0 (.slice pm k cm) M) := RM2.out.below hb
      have BWq : Hid (Below w.heap.size w w4) := below_then BW.out hb
      have BXq : Hid (Blk w4 w.heap.size [.int .i64 a2a, .int .i64 a2b] 44) := BX.out.below hb
      have KWq : Hid (Below w1.heap.size w1 w4) := below_then KW.out hb
      clear RM2 BW BX KW
      have RM2 := RM2q
      have BW := BWq
      have BX := BXq
      have KW := KWq
      clear RM2q BWq BXq KWq
      have RN : Hid (RL w4 0 v11 N) := R11.low (Nat.zero_le _)
      obtain ⟨zz, SS⟩ := fz_kernel HFZ.out.1 fz
      subst zz
      have HS : Hid (N.length ≤ 5000 ∧ ∀ x, Has M x ↔ Has N x ∧ ¬ Has [(a2a, a2b)] x) := ⟨n9, SS⟩
      clear hb R11 fz n9 SS FC KW
      go_wp2_with fail
      refine Calls.mono (AC.out _) ?_
      rintro e w5 ⟨rfl, hb⟩
      have RM2q : Hid (RL w5 0 (.slice pm k cm) M) := RM2.out.below hb
      have BWq : Hid (Below w.heap.size w w5) := below_then BW.out hb
      have BXq : Hid (Blk w5 w.heap.size [.int .i64 a2a, .int .i64 a2b] 44) := BX.out.below hb
      have RNq : Hid (RL w5 0 v11 N) := RN.out.below hb
      clear RM2 BW BX RN
      have RM2 := RM2q
      have BW := BWq
      have BX := BXq
      have RN := RNq
      clear RM2q BWq BXq RNq
      have x0 : w5.cell? ⟨w.heap.size, 0, none⟩ = some (.int .i64 a2a) := BX.out.cell 0
      have x1 : w5.cell? ⟨w.heap.size, 1, none⟩ = some (.int .i64 a2b) := BX.out.cell 1
      have hb5 := Go.Joins.below_alloc1 w5 (.cells #[.int .i64 a2a, .int .i64 a2b] 44)
      have LC : Hid _ := less_call 0 0 v11 (.slice (some ⟨w5.heap.size, 0, none⟩) 1 1) N [(a2a, a2b)] (by have := HS.out.1; omega) (by simp) (by have := HS.out.1; simp; omega) (w5.alloc (.cells #[.int .i64 a2a, .int .i64 a2b] 44)) (RN.out.below hb5) ((ol_ll eR_len (ol_one eR_len w5 0 (Nat.zero_le _) (a2a, a2b))).low (Nat.zero_le _))
      clear hb
      go_wp2_with fail
      refine Calls.mono LC.out ?_
      rintro e w6 ⟨v9, K, rfl, O9, CK, SK, LK, hb⟩
      have hb6 := below_then hb5 hb
      have RM2q : Hid (RL w6 0 (.slice pm k cm) M) := RM2.out.below hb6
      have BWq : Hid (Below w.heap.size w w6) := below_then BW.out hb6
      have BXq : Hid (Blk w6 w.heap.size [.int .i64 a2a, .int .i64 a2b] 44) := BX.out.below hb6
      have RNq : Hid (RL w6 0 v11 N) := RN.out.below hb6
      clear RM2 BW BX RN
      have RM2 := RM2q
      have BW := BWq
      have BX := BXq
      have RN := RNq
      clear RM2q BWq BXq RNq
      have RK : Hid (RL w6 0 v9 K) := (ol_ll eR_len O9).low (Nat.zero_le _)
      have EK : K = M := can_eq K M CK HFB.out.2.1 (fun x => (SK x).trans (HS.out.2 x).symm)
      subst EK
      have SC : Hid _ := same_any 0 0 v9 (.slice pm k cm) K K true ⟨fun _ => rfl, fun _ => rfl⟩ (by have := HFZ.out.2; omega) (by have := HFZ.out.2; omega) w6 RK.out RM2.out
      clear hb hb5 hb6 O9 CK SK LK x0 x1 LC
      go_wp2_with fail
      refine Calls.mono SC.out ?_
      rintro e w7 ⟨rfl, hb⟩
      have BW7 : Hid (Below w.heap.size w w7) := below_then BW.out hb
      clear hb
      go_wp2_with fail
      go_ret
      exact ⟨rfl, BW7.out⟩

theorem own : ownKnob Try.prog.godebug = none := by kernel_rfl
theorem laidOut : laidOutB Try.prog = true := by kernel_rfl
set_option maxRecDepth 100000 in
theorem lifted (os : Os) (started : os.Started) (H : Type) (enc : TypeId × Value → H) :
    ReturnsInHanded {} Try.checked os 8 .any (Rows.bootmapKernelSpec.pre6 enc Try.prog Try.f8 Rows.bootmapKernelRow.domain false) (Rows.bootmapKernelSpec.post enc Try.prog Try.f8 false true false false) := by
  refine returnsInHanded_of_change (C := Try.checked) own started (by kernel_rfl) Try.func8
    (ChangeSpec.witness6 (enc := enc) (C := Try.checked) false ⟨#[], #[.slice none 0 0, .int .i64 0, .agg #[.int .i64 0, .int .i64 0]], []⟩ 8 (by kernel_rfl) (by kernel_rfl) (by kernel_rfl) (by kernel_rfl)) ?_
  intro W base args ds gs before hval0 hW hcnd _
  have hval : ∀ (j : Nat) t v, Try.f8.params[j]? = some t → args[j]? = some v → Value.okWide Try.prog W .any base t v := hval0
  have hW' := hW
  obtain ⟨p, q, hA0, hV, hbef, hfz, hnd⟩ := hW
  have hA : DataW.TrodAll enc Try.prog W 0 (fun _ => true) true Try.f8.params.toList args.toList ds p := hA0
  have hAk := hA
  have hlt : ∀ x ∈ p, x.block < W.heap.size := fun x hx => hW'.lt x (by rw [hbef]; exact List.mem_append_left _ hx)
  rw [Try.params8] at hA hval
  obtain ⟨v0, vs0, d0, ds0, p0, q0, hargs, rfl, hp0, h0, r0⟩ := trodAll_cons hA
  obtain ⟨v1, vs1, d1, ds1, p1, q1, rfl, rfl, hp1, h1, r1⟩ := trodAll_cons r0
  obtain ⟨v2, vs2, d2, ds2, p2, q2, rfl, rfl, hp2, h2, r2⟩ := trodAll_cons r1
  obtain ⟨rfl, rfl, hpz⟩ := trodAll_nil r2
  obtain rfl : args = #[v0, v1, v2] := by cases args; simp_all
  obtain ⟨rfl, rfl⟩ := trodVars_none hV
  obtain ⟨p0, n0, c0, B0, rfl, m0, l0, H0⟩ := open_byts (hval 0 22 v0 rfl rfl) h0
  obtain ⟨a1, rfl, _, _, w1⟩ := open_int Try.underlying3 (hval 1 3 v1 rfl rfl) h1
  obtain ⟨a2a, a2b, rfl, w2a, w2b⟩ := open_range (hval 2 44 v2 rfl rfl) h2
  clear hA0 hval0
  refine (walk p0 n0 c0 B0 m0 l0 a1 w1 a2a a2b w2a w2b W H0).mono fun e W' ⟨he, hg⟩ => ?_
  subst he
  exact ⟨_, rfl, ⟨_, _, _, [], p, [], hW', (trodAll_cons_mk (shut_bool Try.underlying4 _) trodAll_mk0), args_stay laidOut hg (by kernel_rfl) hAk hlt, rfl, hg.frame _, fun h => by cases h⟩⟩

theorem over : Rows.bootmapKernelRow.holds Try.pinned (OpenSpec.ofChange Rows.bootmapKernelSpec) :=
  OpenClaim.holds_of_wide 8 Try.f8 rfl rfl rfl rfl rfl rfl rfl ⟨rfl, rfl, rfl, rfl, rfl⟩ rfl rfl rfl rfl rfl (by kernel_rfl) Try.func8 (by kernel_rfl)
    (of_decide_eq_true (by kernel_rfl)) (by unfold Func.isWrapper; first | (rw [if_pos (by decide +kernel)]; kernel_rfl) | (rw [if_neg (by decide +kernel)]; exact ⟨rfl, rfl⟩))
    (fun os started H enc _ => lifted os started H enc)

theorem proved : Rows.BootmapKernelSaid :=
  over
#print axioms proved
end Go.Proofs.Ytkgjeemecpigpaa.bootmapKernel
