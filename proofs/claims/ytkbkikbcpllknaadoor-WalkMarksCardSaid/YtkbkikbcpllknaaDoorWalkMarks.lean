/- WalkMarks: a walk that finds something marks its entries as used, and the last one as written to if it was a write; one that doesn't leaves all as it was. No condition. -/
import Derived.Test.YtkbkikbcpllknaaDoorRows
import Derived.Test.YtkbkikbcpllknaaDoorCards
import Derived.Test.YtkbkikbcpllknaaDoorTie
import Derived.ProofKit
import Derived.OpenShut
import Derived.Stop.Joined
import Derived.SevenTiedAt
import Derived.Test.YtkbkikbcpllknaaDoorV4
namespace Go.Proofs.YtkbkikbcpllknaaDoor.walkMarks
open Go.ChangeShapes Go.WideShapes Go.ChangeAt Go.RowKit
set_option linter.unusedSimpArgs false
set_option linter.unusedVariables false
set_option maxRecDepth 8000
theorem may_none (a b c : Bool) : mayV a b c false false false = true := by unfold mayV; simp
theorem marks_then {M : Int → Int} (hM : ∀ t, 0 ≤ M t ∧ M t < 256) (root ad : Int) (a0 : 0 ≤ ad) (a1 : ad < 18446744073709551616) (x u f : Bool) (hM1 : ∀ t, 0 ≤ (walkW Has8 M root ad x u f).M t ∧ (walkW Has8 M root ad x u f).M t < 256) (he : (walkW Has8 M root ad x u f).er = 0) :
    (walkW Has8 (walkW Has8 M root ad x u f).M root ad false false false).er = 0 ∧ (x = true → (walkW Has8 (walkW Has8 M root ad x u f).M root ad false false false).d = true) ∧ chkG Has8 (root * 4096 + p0of ad * 8) 8 = 0 ∧
    bt (entV (walkW Has8 (walkW Has8 M root ad x u f).M root ad false false false).M root (p0of ad)) = true ∧ bt (entV (walkW Has8 (walkW Has8 M root ad x u f).M root ad false false false).M root (p0of ad) / 32) = true := by
  have lk := walk_lkm hM Has8 root ad x u f
  have e0 : (walkW Has8 M root ad false false false).er = 0 := by
    rcases walk_core hM Has8 root ad with ⟨e, hne, hw⟩ | ⟨h, hw⟩
    · obtain ⟨a, c, q⟩ := hw x u f
      rw [q] at he; exact absurd he hne
    · exact ((hw false false false).2 (may_none _ _ _)).er
  have e2 : (walkW Has8 (walkW Has8 M root ad x u f).M root ad false false false).er = 0 := (sim_walk lk Has8 root (a := ad) (b := ad) rfl a0 a1 a0 a1 false false false).er.trans e0
  have d1 := walk_d hM Has8 root ad x u f he
  have d2 := walk_d hM1 Has8 root ad false false false e2
  refine ⟨e2, fun hx => ?_, ?_⟩
  · rw [d2.1, last_lk lk root (a := ad) (b := ad) rfl, d1.2, hx]
    have bd := ent_bd hM (lastTP M root ad).1 (lastTP M root ad).2
    simp [orb_d96 _ bd.1 bd.2]
  · rcases walk_core hM1 Has8 root ad with ⟨e, hne, hw⟩ | ⟨h, hw⟩
    · obtain ⟨a, c, q⟩ := hw false false false
      rw [q] at e2; exact absurd e2 hne
    · have k := ((hw false false false).2 (may_none _ _ _)).b
      exact ⟨k.2.2, k.1, k.2.1⟩
theorem and33 (v : Int) (h0 : 0 ≤ v) (h1 : v < 18446744073709551616) (b0 : bt v = true) (b5 : bt (v / 32) = true) : bits .and .u64 v 33 = 33 := by
  rw [u64_and v 33 h0 h1 (by omega) (by omega), show (33 : Int).toNat = 33 from rfl]
  have l : v.toNat &&& 33 ≤ 33 := Nat.and_le_right
  have k : (v.toNat &&& 33) % 2 ^ 6 = v.toNat % 2 ^ 6 &&& 33 := by rw [Nat.and_mod_two_pow]
  unfold bt at b0 b5
  simp only [beq_iff_eq] at b0 b5
  have f : ∀ m : Nat, m < 64 → m % 2 = 1 → m / 32 % 2 = 1 → m &&& 33 = 33 := by decide
  have := f (v.toNat % 2 ^ 6) (Nat.mod_lt _ (by omega)) (by omega) (by omega)
  rw [this] at k
  omega

set_option maxHeartbeats 8000000 in
theorem walk (p0 : Option Addr) (n0 c0 : Nat) (A0 : Nat → Pt) (m0 : n0 ≤ maxLen) (s1 : Sp) (w1 : (Lit.int .i64 (s1.rt)).wf = true ∧ (Lit.int .u64 (s1.ad)).wf = true ∧ True) (w : World) (ht : Tab w) (H0 : IsPuts w p0 n0 A0) :
    Calls Tryd.prog 6 #[.slice p0 n0 c0, s1.val] w fun e w' => e = .returned (.bool true) ∧ Below w.heap.size w w' := by
  have mx : 1000 < maxLen := by decide +kernel
  have MX : Hid (1000 < maxLen) := mx
  clear mx
  have AW : Hid (∀ W : World, Below w.heap.size w W → Calls Tryd.prog 10 #[] W fun e w' => e = .returned (.bool true) ∧ Below W.heap.size W w') := fun W hb => awake_any W (ht.below hb ht.1)
  obtain ⟨rt, ad, x, u, f⟩ := s1
  have hb1 := wf_u64 w1.2.1
  clear w1
  have SB : Hid (Blk (w.alloc (.cells #[.int .i64 rt, .int .u64 ad, .bool x, .bool u, .bool f] 36)) w.heap.size [.int .i64 rt, .int .u64 ad, .bool x, .bool u, .bool f] 36) := Blk.made w _ _
  have BW : Hid (Below w.heap.size w (w.alloc (.cells #[.int .i64 rt, .int .u64 ad, .bool x, .bool u, .bool f] 36))) := Go.Joins.below_alloc1 _ _
  have T1 : Hid (Tab (w.alloc (.cells #[.int .i64 rt, .int .u64 ad, .bool x, .bool u, .bool f] 36))) := ht.keep (Go.Joins.below_alloc1 _ _)
  have HA : Hid (IsPuts w p0 n0 A0) := H0
  obtain ⟨M0, hM0⟩ : ∃ M0, M0 = layM A0 (min n0 40) := ⟨_, rfl⟩
  have LY : Hid (Calls Tryd.prog 9 #[.slice p0 n0 c0] (w.alloc (.cells #[.int .i64 rt, .int .u64 ad, .bool x, .bool u, .bool f] 36)) fun e w' => ∃ (rb g mb xb : Nat) (K : Nat → Prop) (S : List Nat), e = .returned (.tuple #[.pointer (some ⟨rb, 0, none⟩), .agg #[.int .i64 8, .slice (some ⟨g, 0, none⟩) 1 1, .map (some mb)]]) ∧ Play (w.alloc (.cells #[.int .i64 rt, .int .u64 ad, .bool x, .bool u, .bool f] 36)) w' K S rb 8 [(7, 8)] g 1 mb xb M0 M0 80 320) := by
    rw [hM0]; exact lay_ex p0 n0 c0 A0 m0 (w.alloc (.cells #[.int .i64 rt, .int .u64 ad, .bool x, .bool u, .bool f] 36)) (H0.below (Go.Joins.below_alloc1 _ _))
  clear hM0 H0
  go_enter Tryd.func6, Tryd.ntmps6
  go_wp2_with fail
  refine LY.out.mono ?_
  rintro e u1 ⟨rb, g, mb, xb, K, S, rfl, h1⟩
  obtain ⟨K1, k1a, k1b, h9⟩ := h1.box1 (.cells #[.int .i64 8, .slice (some ⟨g, 0, none⟩) 1 1, .map (some mb)] 28)
  have P1 : Hid (Play (w.alloc (.cells #[.int .i64 rt, .int .u64 ad, .bool x, .bool u, .bool f] 36)) (u1.alloc (.cells #[.int .i64 8, .slice (some ⟨g, 0, none⟩) 1 1, .map (some mb)] 28)) K1 S rb 8 [(7, 8)] g 1 mb xb M0 M0 80 320) := h9
  have KX : Hid (K1 u1.heap.size) := k1b
  have XB : Hid (Blk (u1.alloc (.cells #[.int .i64 8, .slice (some ⟨g, 0, none⟩) 1 1, .map (some mb)] 28)) u1.heap.size [.int .i64 8, .slice (some ⟨g, 0, none⟩) 1 1, .map (some mb)] 28) := Blk.made u1 _ _
  clear LY h1 h9 k1a k1b
  have hM : ∀ t, 0 ≤ M0 t ∧ M0 t < 256 := P1.out.ram.ram.byte
  obtain ⟨r1, hr1⟩ : ∃ r1, r1 = walkW Has8 M0 rt ad x u f := ⟨_, rfl⟩
  have C1 : Calls Tryd.prog 11 #[.pointer (some ⟨rb, 0, none⟩), .int .i64 rt, .int .u64 ad, .agg #[.bool x, .bool u, .bool f]] (u1.alloc (.cells #[.int .i64 8, .slice (some ⟨g, 0, none⟩) 1 1, .map (some mb)] 28)) fun e w' => e = .returned r1.val ∧ Play (w.alloc (.cells #[.int .i64 rt, .int .u64 ad, .bool x, .bool u, .bool f] 36)) w' K1 S rb 8 [(7, 8)] g 1 mb xb r1.M M0 88 320 ∧ Kept K1 (u1.alloc (.cells #[.int .i64 8, .slice (some ⟨g, 0, none⟩) 1 1, .map (some mb)] 28)) w' := by
    rw [hr1]; exact walk_play P1.out T1.out (by have := MX.out; omega) rt ad hb1.1 hb1.2 x u f
  have H1 : Hid (r1 = walkW Has8 M0 rt ad x u f) := hr1
  have HM : Hid (∀ t, 0 ≤ M0 t ∧ M0 t < 256) := hM
  clear hr1 hM
  obtain ⟨er1, fa1, fc1, fr1, pw1, pu1, px1, g1, l1, d1, M1⟩ := r1
  have C1 : Hid (Calls Tryd.prog 11 #[.pointer (some ⟨rb, 0, none⟩), .int .i64 rt, .int .u64 ad, .agg #[.bool x, .bool u, .bool f]] (u1.alloc (.cells #[.int .i64 8, .slice (some ⟨g, 0, none⟩) 1 1, .map (some mb)] 28)) fun e w' => e = .returned (.tuple #[.agg #[.int .i64 fr1, .bool pw1, .bool pu1, .bool px1, .bool g1, .bool l1, .bool d1], .agg #[.int .u64 fa1, .int .i64 fc1], .int .i64 er1]) ∧ Play (w.alloc (.cells #[.int .i64 rt, .int .u64 ad, .bool x, .bool u, .bool f] 36)) w' K1 S rb 8 [(7, 8)] g 1 mb xb M1 M0 88 320 ∧ Kept K1 (u1.alloc (.cells #[.int .i64 8, .slice (some ⟨g, 0, none⟩) 1 1, .map (some mb)] 28)) w') := C1
  have s0 : (u1.alloc (.cells #[.int .i64 8, .slice (some ⟨g, 0, none⟩) 1 1, .map (some mb)] 28)).cell? ⟨w.heap.size, 0, none⟩ = some (.int .i64 rt) := Blk.cell (Blk.below SB.out P1.out.bel) 0
  have s1 : (u1.alloc (.cells #[.int .i64 8, .slice (some ⟨g, 0, none⟩) 1 1, .map (some mb)] 28)).cell? ⟨w.heap.size, 1, none⟩ = some (.int .u64 ad) := Blk.cell (Blk.below SB.out P1.out.bel) 1
  have s2 : (u1.alloc (.cells #[.int .i64 8, .slice (some ⟨g, 0, none⟩) 1 1, .map (some mb)] 28)).cell? ⟨w.heap.size, 2, none⟩ = some (.bool x) := Blk.cell (Blk.below SB.out P1.out.bel) 2
  have s3 : (u1.alloc (.cells #[.int .i64 8, .slice (some ⟨g, 0, none⟩) 1 1, .map (some mb)] 28)).cell? ⟨w.heap.size, 3, none⟩ = some (.bool u) := Blk.cell (Blk.below SB.out P1.out.bel) 3
  have s4 : (u1.alloc (.cells #[.int .i64 8, .slice (some ⟨g, 0, none⟩) 1 1, .map (some mb)] 28)).cell? ⟨w.heap.size, 4, none⟩ = some (.bool f) := Blk.cell (Blk.below SB.out P1.out.bel) 4
  go_wp2_with fail
  refine C1.out.mono ?_
  rintro e u2 ⟨rfl, h2, k2⟩
  obtain ⟨K2, k2a, k2b, k2c, h3⟩ := h2.box2 (.cells #[.int .i64 fr1, .bool pw1, .bool pu1, .bool px1, .bool g1, .bool l1, .bool d1] 40) (.cells #[.int .u64 fa1, .int .i64 fc1] 42)
  have P2 : Hid (Play (w.alloc (.cells #[.int .i64 rt, .int .u64 ad, .bool x, .bool u, .bool f] 36)) ((u2.alloc (.cells #[.int .i64 fr1, .bool pw1, .bool pu1, .bool px1, .bool g1, .bool l1, .bool d1] 40)).alloc (.cells #[.int .u64 fa1, .int .i64 fc1] 42)) K2 S rb 8 [(7, 8)] g 1 mb xb M1 M0 88 320) := h3
  have X2 : Hid (Blk ((u2.alloc (.cells #[.int .i64 fr1, .bool pw1, .bool pu1, .bool px1, .bool g1, .bool l1, .bool d1] 40)).alloc (.cells #[.int .u64 fa1, .int .i64 fc1] 42)) u1.heap.size [.int .i64 8, .slice (some ⟨g, 0, none⟩) 1 1, .map (some mb)] 28) := Blk.below (Blk.kept XB.out k2 KX.out) (Go.Joins.below_alloc2 _ _ _)
  have lu : w.heap.size < u2.heap.size := Nat.lt_of_lt_of_le (by rw [World.size_alloc]; omega) h2.bel.size
  have t0 : u2.cell? ⟨w.heap.size, 0, none⟩ = some (.int .i64 rt) := Blk.cell (Blk.below SB.out h2.bel) 0
  have t1 : u2.cell? ⟨w.heap.size, 1, none⟩ = some (.int .u64 ad) := Blk.cell (Blk.below SB.out h2.bel) 1
  have t2 : u2.cell? ⟨w.heap.size, 2, none⟩ = some (.bool x) := Blk.cell (Blk.below SB.out h2.bel) 2
  have t3 : u2.cell? ⟨w.heap.size, 3, none⟩ = some (.bool u) := Blk.cell (Blk.below SB.out h2.bel) 3
  have t4 : u2.cell? ⟨w.heap.size, 4, none⟩ = some (.bool f) := Blk.cell (Blk.below SB.out h2.bel) 4
  clear C1 P1 h2 k2 k2a k2b k2c h3 s0 s1 s2 s3 s4 XB KX
  by_cases e0 : er1 = 0
  rotate_left
  · have b0 : (er1 != 0) = true := by simpa using e0
    have zz := walk_zero HM.out Has8 rt ad x u f (by rw [← H1.out]; exact e0)
    rw [← H1.out] at zz
    have me : M1 = M0 := zz.2.2.2.2.2.2.2
    subst me
    have BU : Hid (Below w.heap.size w ((u2.alloc (.cells #[.int .i64 fr1, .bool pw1, .bool pu1, .bool px1, .bool g1, .bool l1, .bool d1] 40)).alloc (.cells #[.int .u64 fa1, .int .i64 fc1] 42))) := below_next BW.out P2.out.bel
    clear zz e0 H1 HM t0 t1 t2 t3 t4
    go_wp2_with fail
    refine (AW.out _ BU.out).mono ?_
    rintro e u5 ⟨rfl, hb⟩
    have B5 : Hid (Below w.heap.size w u5) := below_next BU.out hb
    have P5 : Hid (Play (w.alloc (.cells #[.int .i64 rt, .int .u64 ad, .bool x, .bool u, .bool f] 36)) u5 K2 S rb 8 [(7, 8)] g 1 mb xb M1 M1 88 320) := P2.out.grow (below_g0 hb)
    have X5 := Blk.below X2.out hb
    have xc0 : u5.cell? ⟨u1.heap.size, 0, none⟩ = some (.int .i64 8) := Blk.cell X5 0
    have xc1 : u5.cell? ⟨u1.heap.size, 1, none⟩ = some (.slice (some ⟨g, 0, none⟩) 1 1) := Blk.cell X5 1
    have xc2 : u5.cell? ⟨u1.heap.size, 2, none⟩ = some (.map (some mb)) := Blk.cell X5 2
    have CS : Hid (Calls Tryd.prog 13 #[.pointer (some ⟨rb, 0, none⟩), .agg #[.int .i64 8, .slice (some ⟨g, 0, none⟩) 1 1, .map (some mb)], .slice p0 n0 c0] u5 fun e w' => e = .returned (.int .i64 0) ∧ Below u5.heap.size u5 w') := same_any P5.out p0 n0 c0 A0 m0 (HA.out.below B5.out)
    clear hb X5 BU P5
    go_wp2_with fail
    refine CS.out.mono ?_
    rintro e u6 ⟨rfl, hb⟩
    have B6 : Hid (Below w.heap.size w u6) := below_next B5.out hb
    clear hb
    go_wp2_with fail
    go_ret
    exact ⟨rfl, B6.out⟩
  subst e0
  have hM1 : ∀ t, 0 ≤ M1 t ∧ M1 t < 256 := P2.out.ram.ram.byte
  have mt := marks_then HM.out rt ad hb1.1 hb1.2 x u f (by rw [← H1.out]; exact hM1) (by rw [← H1.out])
  rw [← H1.out] at mt
  simp only at mt
  have C2 := walk_play P2.out T1.out (by have := MX.out; omega) rt ad hb1.1 hb1.2 false false false
  generalize walkW Has8 M1 rt ad false false false = r2 at C2 mt
  obtain ⟨er2, fa2, fc2, fr2, pw2, pu2, px2, g2, l2, d2, M2⟩ := r2
  simp only at mt
  obtain ⟨e2, md, ck, b0, b5⟩ := mt
  subst e2
  have C2 : Hid (Calls Tryd.prog 11 #[.pointer (some ⟨rb, 0, none⟩), .int .i64 rt, .int .u64 ad, .agg #[.bool false, .bool false, .bool false]] ((u2.alloc (.cells #[.int .i64 fr1, .bool pw1, .bool pu1, .bool px1, .bool g1, .bool l1, .bool d1] 40)).alloc (.cells #[.int .u64 fa1, .int .i64 fc1] 42)) fun e w' => e = .returned (.tuple #[.agg #[.int .i64 fr2, .bool pw2, .bool pu2, .bool px2, .bool g2, .bool l2, .bool d2], .agg #[.int .u64 fa2, .int .i64 fc2], .int .i64 0]) ∧ Play (w.alloc (.cells #[.int .i64 rt, .int .u64 ad, .bool x, .bool u, .bool f] 36)) w' K2 S rb 8 [(7, 8)] g 1 mb xb M2 M0 96 320 ∧ Kept K2 ((u2.alloc (.cells #[.int .i64 fr1, .bool pw1, .bool pu1, .bool px1, .bool g1, .bool l1, .bool d1] 40)).alloc (.cells #[.int .u64 fa1, .int .i64 fc1] 42)) w') := C2
  have rtb : 0 ≤ rt ∧ rt < 7 := by
    have q : Has8 ((rt * 4096 + p0of ad * 8) / 4096) = true := by
      unfold chkG at ck
      rw [if_pos (by omega)] at ck
      split at ck
      · rename_i hh; exact hh.2.1
      · omega
    rw [has8] at q
    simp only [decide_eq_true_eq, p0of] at q
    omega
  obtain ⟨pl, hpl⟩ : ∃ pl, pl = ad / 549755813888 % 512 := ⟨_, rfl⟩
  have pe : p0of ad = pl := by rw [hpl]; unfold p0of; omega
  rw [pe] at ck b0 b5
  have plb : 0 ≤ pl ∧ pl < 512 := by omega
  have HPL : Hid (pl = ad / 549755813888 % 512) := hpl
  obtain ⟨v, hv⟩ : ∃ v, v = entV M2 rt pl := ⟨_, rfl⟩
  have MDH : Hid (x = true → d2 = true) := md
  have V0 : Hid (bt v = true ∧ bt (v / 32) = true) := by rw [hv]; exact ⟨b0, b5⟩
  have CKH : Hid (chkG Has8 (rt * 4096 + pl * 8) 8 = 0) := ck
  have HV : Hid (v = entV M2 rt pl) := hv
  clear md ck b0 b5 pe hv hpl H1 HM hM1 X2
  have MDM : Hid _ := made_2 u2 [.int .i64 fr1, .bool pw1, .bool pu1, .bool px1, .bool g1, .bool l1, .bool d1] [.int .u64 fa1, .int .i64 fc1] 40 42
  go_wp2_with fail
  refine C2.out.mono ?_
  rintro e u3 ⟨rfl, h4, k4⟩
  obtain ⟨K4, k4a, k4b, k4c, h5⟩ := h4.box2 (.cells #[.int .i64 fr2, .bool pw2, .bool pu2, .bool px2, .bool g2, .bool l2, .bool d2] 40) (.cells #[.int .u64 fa2, .int .i64 fc2] 42)
  have P3 : Hid (Play (w.alloc (.cells #[.int .i64 rt, .int .u64 ad, .bool x, .bool u, .bool f] 36)) ((u3.alloc (.cells #[.int .i64 fr2, .bool pw2, .bool pu2, .bool px2, .bool g2, .bool l2, .bool d2] 40)).alloc (.cells #[.int .u64 fa2, .int .i64 fc2] 42)) K4 S rb 8 [(7, 8)] g 1 mb xb M2 M0 96 320) := h5
  have BU : Hid (Below w.heap.size w ((u3.alloc (.cells #[.int .i64 fr2, .bool pw2, .bool pu2, .bool px2, .bool g2, .bool l2, .bool d2] 40)).alloc (.cells #[.int .u64 fa2, .int .i64 fc2] 42))) := below_next BW.out h5.bel
  have lu3 : w.heap.size < u3.heap.size := Nat.lt_of_lt_of_le (by rw [World.size_alloc]; omega) h4.bel.size
  have v0 : u3.cell? ⟨w.heap.size, 0, none⟩ = some (.int .i64 rt) := Blk.cell (Blk.below SB.out h4.bel) 0
  have v1 : u3.cell? ⟨w.heap.size, 1, none⟩ = some (.int .u64 ad) := Blk.cell (Blk.below SB.out h4.bel) 1
  have v2 : u3.cell? ⟨w.heap.size, 2, none⟩ = some (.bool x) := Blk.cell (Blk.below SB.out h4.bel) 2
  have v3 : u3.cell? ⟨w.heap.size, 3, none⟩ = some (.bool u) := Blk.cell (Blk.below SB.out h4.bel) 3
  have v4 : u3.cell? ⟨w.heap.size, 4, none⟩ = some (.bool f) := Blk.cell (Blk.below SB.out h4.bel) 4
  have vb := ent_bd (M := M2) h4.ram.ram.byte rt pl
  have A33 : bits .and .u64 v 33 = 33 := and33 v (by rw [HV.out]; exact vb.1) (by rw [HV.out]; exact vb.2) V0.out.1 V0.out.2
  have LK : Hid (Calls Tryd.prog 16 #[.pointer (some ⟨rb, 0, none⟩), .int .u64 (rt * 4096 + pl * 8), .int .i64 8] ((u3.alloc (.cells #[.int .i64 fr2, .bool pw2, .bool pu2, .bool px2, .bool g2, .bool l2, .bool d2] 40)).alloc (.cells #[.int .u64 fa2, .int .i64 fc2] 42)) fun e w' => e = .returned (.tuple #[.int .u64 v, .int .i64 0]) ∧ ((u3.alloc (.cells #[.int .i64 fr2, .bool pw2, .bool pu2, .bool px2, .bool g2, .bool l2, .bool d2] 40)).alloc (.cells #[.int .u64 fa2, .int .i64 fc2] 42)).grownBy w' none) := load_okG P3.out.ram.ram.ram _ 8 v (by omega) (by omega) CKH.out HV.out.symm
  clear C2 P2 h4 k4 h5 k4a k4b k4c t0 t1 t2 t3 t4 vb MDM CKH HV V0 P3
  have w1' : IntKind.u64.wrap rt = rt := by rw [IntKind.wrap_u64]; omega
  have w2' : IntKind.u64.wrap (rt * 4096) = rt * 4096 := by rw [IntKind.wrap_u64]; omega
  have w3' : ad / 549755813888 % 512 = pl := HPL.out.symm
  have w4' : IntKind.u64.wrap (pl * 8) = pl * 8 := by rw [IntKind.wrap_u64]; omega
  have w5' : IntKind.u64.wrap (rt * 4096 + pl * 8) = rt * 4096 + pl * 8 := by rw [IntKind.wrap_u64]; omega
  cases x with
  | true =>
    have dd := MDH.out rfl
    subst dd
    clear MDH
    go_wp2_with fail
    refine LK.out.mono ?_
    rintro e u4 ⟨rfl, hg⟩
    have B4 : Hid (Below w.heap.size w u4) := below_next BU.out (none_below hg)
    clear hg LK BU
    go_wp2_with fail
    refine (AW.out _ B4.out).mono ?_
    rintro e u5 ⟨rfl, hb⟩
    have B5 : Hid (Below w.heap.size w u5) := below_next B4.out hb
    clear hb
    go_wp2_with fail
    go_ret
    exact ⟨rfl, B5.out⟩
  | false =>
    clear MDH
    go_wp2_with fail
    refine LK.out.mono ?_
    rintro e u4 ⟨rfl, hg⟩
    have B4 : Hid (Below w.heap.size w u4) := below_next BU.out (none_below hg)
    clear hg LK BU
    go_wp2_with fail
    refine (AW.out _ B4.out).mono ?_
    rintro e u5 ⟨rfl, hb⟩
    have B5 : Hid (Below w.heap.size w u5) := below_next B4.out hb
    clear hb
    go_wp2_with fail
    go_ret
    exact ⟨rfl, B5.out⟩

set_option maxRecDepth 100000 in
theorem lifted (os : Os) (started : os.Started) (H : Type) (enc : TypeId × Value → H) :
    ReturnsInHanded {} Tryd.checked os 6 .any (fun w args => (Rows.walkMarksSpec.pre enc Tryd.prog Tryd.f6 [] false w args ∧ laidMetH Tryd.prog laidL w) ∧ sizedMet enc Tryd.prog Tryd.f6 (OpenSpec.ofChange Rows.walkMarksSpec) false w args)
      (Rows.walkMarksSpec.post enc Tryd.prog Tryd.f6 false true false false) := by
  refine returnsInHanded_of_change_and (C := Tryd.checked) (X := fun w _ => laidMetH Tryd.prog laidL w) (fun _ _ _ hh h => h.of_heap hh) own started (by kernel_rfl) Tryd.func6
    (ChangeSpec.witness_shaped (enc := enc) (C := Tryd.checked) (os := os) (X := fun w _ => laidMetH Tryd.prog laidL w) false (World.doorLaid Tryd.prog 400 os) #[.slice none 0 0, .agg #[.int .i64 0, .int .u64 0, .bool false, .bool false, .bool false]] 8 rfl (World.shaped_of_RefB (by kernel_rfl) (by kernel_rfl)) (by kernel_rfl) (by kernel_rfl) (by kernel_rfl) (door_met os _)) ?_
  intro W base args ds gs before hval0 hW _ _ hL _
  have hval : ∀ (j : Nat) t v, Tryd.f6.params[j]? = some t → args[j]? = some v → Value.okWide Tryd.prog W .any base t v := hval0
  have hW' := hW
  obtain ⟨p, q, hA0, hV, hbef, hfz, hnd⟩ := hW
  have hA : DataW.TrodAll enc Tryd.prog W 0 (fun _ => true) true Tryd.f6.params.toList args.toList ds p := hA0
  have hAk := hA
  have hlt : ∀ x ∈ p, x.block < W.heap.size := fun x hx => hW'.lt x (by rw [hbef]; exact List.mem_append_left _ hx)
  rw [Tryd.params6] at hA hval
  obtain ⟨v0, vs0, d0, ds0, p0, q0, hargs, rfl, hp0, h0, r0⟩ := trodAll_cons hA
  obtain ⟨v1, vs1, d1, ds1, p1, q1, rfl, rfl, hp1, h1, r1⟩ := trodAll_cons r0
  obtain ⟨rfl, rfl, hpz⟩ := trodAll_nil r1
  obtain rfl : args = #[v0, v1] := by cases args; simp_all
  obtain ⟨rfl, rfl⟩ := trodVars_none hV
  obtain ⟨p0, n0, c0, A0, rfl, m0, H0⟩ := open_puts (hval 0 22 v0 rfl rfl) h0
  obtain ⟨s1, rfl, w1⟩ := open_step (hval 1 36 v1 rfl rfl) h1
  clear hA0 hval0
  refine (walk p0 n0 c0 A0 m0 s1 w1 W (of_laid hL) H0).mono fun e W' ⟨he, hg⟩ => ?_
  subst he
  exact ⟨_, rfl, ⟨_, _, _, [], p, [], hW', (trodAll_cons_mk (shut_bool Tryd.underlying4 _) trodAll_mk0), args_stay laidOut hg (by kernel_rfl) hAk hlt, rfl, hg.frame _, fun h => by cases h⟩⟩

theorem over : Rows.walkMarksRow.holds Tryd.pinned (OpenSpec.ofChange Rows.walkMarksSpec) :=
  OpenClaim.holds_of_wide 6 Tryd.f6 rfl rfl rfl rfl rfl rfl rfl ⟨rfl, rfl, rfl, rfl, rfl⟩ rfl rfl rfl rfl rfl (by kernel_rfl) Tryd.func6 (by kernel_rfl)
    (of_decide_eq_true (by kernel_rfl)) (by unfold Func.isWrapper; first | (rw [if_pos (by decide +kernel)]; kernel_rfl) | (rw [if_neg (by decide +kernel)]; exact ⟨rfl, rfl⟩))
    (fun os started H enc _ => lifted os started H enc)

theorem proved : Rows.WalkMarksCardSaid :=
  Claim7.holds_tied_plain_at .later [] [.data] true (true, "2a6e59ec9e225d64675e460dcd5b1b0b3cd5b025de7b313b17a7fe5eb85b0249") true
    over (fun _ h => by cases h) (by kernel_rfl) (fun _ h => by cases h) walkMarks_row_tie rfl ⟨rfl, rfl⟩ (by kernel_rfl) rfl
    (fun f fn hf hfn => by
      obtain rfl : f = 6 := Option.some.inj ((show Tryd.prog.funcNamed "demesne/demesnelaw04.WalkMarks" = some 6 by kernel_rfl).symm.trans hf) |>.symm
      obtain rfl : fn = Tryd.f6 := (Option.some.inj (Tryd.func6.symm.trans hfn)).symm
      exact ⟨by kernel_rfl, fun j t ht => by
        rw [Tryd.params6] at ht
        have hm : t ∈ [22, 36] := by simpa using Array.mem_of_getElem? ht
        have hall : ([22, 36].all fun u => !Tryd.prog.wantsStandIn u) = true := by kernel_rfl
        exact (show Tryd.prog.wantsStandIn t = false by simpa using List.all_eq_true.1 hall t hm)⟩)
    (by kernel_rfl)
#print axioms proved
end Go.Proofs.YtkbkikbcpllknaaDoor.walkMarks
