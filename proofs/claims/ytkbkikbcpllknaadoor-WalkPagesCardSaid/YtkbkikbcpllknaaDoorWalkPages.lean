/- WalkPages: two addresses in one page lead to one frame, with one use; in a memory of any entries. No condition. -/
import Derived.Test.YtkbkikbcpllknaaDoorRows
import Derived.Test.YtkbkikbcpllknaaDoorCards
import Derived.Test.YtkbkikbcpllknaaDoorTie
import Derived.ProofKit
import Derived.OpenShut
import Derived.Stop.Joined
import Derived.SevenTiedAt
import Derived.Test.YtkbkikbcpllknaaDoorV3
namespace Go.Proofs.YtkbkikbcpllknaaDoor.walkPages
open Go.ChangeShapes Go.WideShapes Go.ChangeAt Go.RowKit
set_option linter.unusedSimpArgs false
set_option linter.unusedVariables false
set_option maxRecDepth 8000
theorem page_of {ad off : Int} (h0 : 0 ≤ ad) (h1 : ad < 18446744073709551616) (o0 : 0 ≤ off) (o1 : off ≤ 4095) : ad / 4096 = (ad - ad % 4096 + off) / 4096 ∧ 0 ≤ ad - ad % 4096 + off ∧ ad - ad % 4096 + off < 18446744073709551616 := by omega

set_option maxHeartbeats 8000000 in
theorem walk (p0 : Option Addr) (n0 c0 : Nat) (A0 : Nat → Pt) (m0 : n0 ≤ maxLen) (s1 : Sp) (w1 : (Lit.int .i64 (s1.rt)).wf = true ∧ (Lit.int .u64 (s1.ad)).wf = true ∧ True) (a2 : Int) (w2 : (Lit.int .i64 a2).wf = true) (w : World) (ht : Tab w) (H0 : IsPuts w p0 n0 A0) :
    Calls Tryd.prog 8 #[.slice p0 n0 c0, s1.val, .int .i64 a2] w fun e w' => e = .returned (.bool true) ∧ Below w.heap.size w w' := by
  have mx : 1000 < maxLen := by decide +kernel
  have MX : Hid (1000 < maxLen) := mx
  clear mx
  have AW : Hid (∀ W : World, Below w.heap.size w W → Calls Tryd.prog 10 #[] W fun e w' => e = .returned (.bool true) ∧ Below W.heap.size W w') := fun W hb => awake_any W (ht.below hb ht.1)
  obtain ⟨rt, ad, x, u, f⟩ := s1
  have hb1 := wf_u64 w1.2.1
  clear w1 w2
  have SB : Hid (Blk (w.alloc (.cells #[.int .i64 rt, .int .u64 ad, .bool x, .bool u, .bool f] 36)) w.heap.size [.int .i64 rt, .int .u64 ad, .bool x, .bool u, .bool f] 36) := Blk.made w _ _
  have BW : Hid (Below w.heap.size w (w.alloc (.cells #[.int .i64 rt, .int .u64 ad, .bool x, .bool u, .bool f] 36))) := Go.Joins.below_alloc1 _ _
  have T1 : Hid (Tab (w.alloc (.cells #[.int .i64 rt, .int .u64 ad, .bool x, .bool u, .bool f] 36))) := ht.keep (Go.Joins.below_alloc1 _ _)
  obtain ⟨M0, hM0⟩ : ∃ M0, M0 = layM A0 (min n0 40) := ⟨_, rfl⟩
  have LY : Hid (Calls Tryd.prog 9 #[.slice p0 n0 c0] (w.alloc (.cells #[.int .i64 rt, .int .u64 ad, .bool x, .bool u, .bool f] 36)) fun e w' => ∃ (rb g mb xb : Nat) (K : Nat → Prop) (S : List Nat), e = .returned (.tuple #[.pointer (some ⟨rb, 0, none⟩), .agg #[.int .i64 8, .slice (some ⟨g, 0, none⟩) 1 1, .map (some mb)]]) ∧ Play (w.alloc (.cells #[.int .i64 rt, .int .u64 ad, .bool x, .bool u, .bool f] 36)) w' K S rb 8 [(7, 8)] g 1 mb xb M0 M0 80 320) := by
    rw [hM0]; exact lay_ex p0 n0 c0 A0 m0 (w.alloc (.cells #[.int .i64 rt, .int .u64 ad, .bool x, .bool u, .bool f] 36)) (H0.below (Go.Joins.below_alloc1 _ _))
  clear hM0 H0
  by_cases o0 : a2 < 0
  · have do0 : decide (a2 < 0) = true := decide_eq_true o0
    go_enter Tryd.func8, Tryd.ntmps8
    go_wp2_with fail
    refine LY.out.mono ?_
    rintro e u1 ⟨rb, g, mb, xb, K, S, rfl, h1⟩
    obtain ⟨K1, k1a, k1b, h9⟩ := h1.box1 (.cells #[.int .i64 8, .slice (some ⟨g, 0, none⟩) 1 1, .map (some mb)] 28)
    have P1 : Hid (Play (w.alloc (.cells #[.int .i64 rt, .int .u64 ad, .bool x, .bool u, .bool f] 36)) (u1.alloc (.cells #[.int .i64 8, .slice (some ⟨g, 0, none⟩) 1 1, .map (some mb)] 28)) K1 S rb 8 [(7, 8)] g 1 mb xb M0 M0 80 320) := h9
    clear LY h1 h9 k1a k1b
    have BU : Hid (Below w.heap.size w (u1.alloc (.cells #[.int .i64 8, .slice (some ⟨g, 0, none⟩) 1 1, .map (some mb)] 28))) := below_next BW.out P1.out.bel
    clear P1 SB T1
    go_wp2_with fail
    refine (AW.out _ BU.out).mono ?_
    rintro e u9 ⟨rfl, hb⟩
    have B9 : Hid (Below w.heap.size w u9) := below_next BU.out hb
    clear hb
    go_wp2_with fail
    go_ret
    exact ⟨rfl, B9.out⟩
  have do0 : decide (a2 < 0) = false := decide_eq_false o0
  by_cases o1 : 4095 < a2
  · have do1 : decide (4095 < a2) = true := decide_eq_true o1
    go_enter Tryd.func8, Tryd.ntmps8
    go_wp2_with fail
    refine LY.out.mono ?_
    rintro e u1 ⟨rb, g, mb, xb, K, S, rfl, h1⟩
    obtain ⟨K1, k1a, k1b, h9⟩ := h1.box1 (.cells #[.int .i64 8, .slice (some ⟨g, 0, none⟩) 1 1, .map (some mb)] 28)
    have P1 : Hid (Play (w.alloc (.cells #[.int .i64 rt, .int .u64 ad, .bool x, .bool u, .bool f] 36)) (u1.alloc (.cells #[.int .i64 8, .slice (some ⟨g, 0, none⟩) 1 1, .map (some mb)] 28)) K1 S rb 8 [(7, 8)] g 1 mb xb M0 M0 80 320) := h9
    clear LY h1 h9 k1a k1b
    have BU : Hid (Below w.heap.size w (u1.alloc (.cells #[.int .i64 8, .slice (some ⟨g, 0, none⟩) 1 1, .map (some mb)] 28))) := below_next BW.out P1.out.bel
    clear P1 SB T1
    go_wp2_with fail
    refine (AW.out _ BU.out).mono ?_
    rintro e u9 ⟨rfl, hb⟩
    have B9 : Hid (Below w.heap.size w u9) := below_next BU.out hb
    clear hb
    go_wp2_with fail
    go_ret
    exact ⟨rfl, B9.out⟩
  have do1 : decide (4095 < a2) = false := decide_eq_false o1
  go_enter Tryd.func8, Tryd.ntmps8
  go_wp2_with fail
  refine LY.out.mono ?_
  rintro e u1 ⟨rb, g, mb, xb, K, S, rfl, h1⟩
  obtain ⟨K1, k1a, k1b, h9⟩ := h1.box1 (.cells #[.int .i64 8, .slice (some ⟨g, 0, none⟩) 1 1, .map (some mb)] 28)
  have P1 : Hid (Play (w.alloc (.cells #[.int .i64 rt, .int .u64 ad, .bool x, .bool u, .bool f] 36)) (u1.alloc (.cells #[.int .i64 8, .slice (some ⟨g, 0, none⟩) 1 1, .map (some mb)] 28)) K1 S rb 8 [(7, 8)] g 1 mb xb M0 M0 80 320) := h9
  clear LY h1 h9 k1a k1b
  have hM : ∀ t, 0 ≤ M0 t ∧ M0 t < 256 := P1.out.ram.ram.byte
  obtain ⟨r1, hr1⟩ : ∃ r1, r1 = walkW Has8 M0 rt ad x u f := ⟨_, rfl⟩
  have C1 : Calls Tryd.prog 11 #[.pointer (some ⟨rb, 0, none⟩), .int .i64 rt, .int .u64 ad, .agg #[.bool x, .bool u, .bool f]] (u1.alloc (.cells #[.int .i64 8, .slice (some ⟨g, 0, none⟩) 1 1, .map (some mb)] 28)) fun e w' => e = .returned r1.val ∧ Play (w.alloc (.cells #[.int .i64 rt, .int .u64 ad, .bool x, .bool u, .bool f] 36)) w' K1 S rb 8 [(7, 8)] g 1 mb xb r1.M M0 88 320 ∧ Kept K1 (u1.alloc (.cells #[.int .i64 8, .slice (some ⟨g, 0, none⟩) 1 1, .map (some mb)] 28)) w' := by
    rw [hr1]; exact walk_play P1.out T1.out (by have := MX.out; omega) rt ad hb1.1 hb1.2 x u f
  have H1 : Hid (r1 = walkW Has8 M0 rt ad x u f) := hr1
  have HM : Hid (∀ t, 0 ≤ M0 t ∧ M0 t < 256) := hM
  clear hr1 hM
  obtain ⟨er1, fa1, fc1, fr1, pw1, pu1, px1, g1, l1, d1, M1⟩ := r1
  have C1 : Hid (Calls Tryd.prog 11 #[.pointer (some ⟨rb, 0, none⟩), .int .i64 rt, .int .u64 ad, .agg #[.bool x, .bool u, .bool f]] (u1.alloc (.cells #[.int .i64 8, .slice (some ⟨g, 0, none⟩) 1 1, .map (some mb)] 28)) fun e w' => e = .returned (.tuple #[.agg #[.int .i64 fr1, .bool pw1, .bool pu1, .bool px1, .bool g1, .bool l1, .bool d1], .agg #[.int .u64 fa1, .int .i64 fc1], .int .i64 er1]) ∧ Play (w.alloc (.cells #[.int .i64 rt, .int .u64 ad, .bool x, .bool u, .bool f] 36)) w' K1 S rb 8 [(7, 8)] g 1 mb xb M1 M0 88 320 ∧ Kept K1 (u1.alloc (.cells #[.int .i64 8, .slice (some ⟨g, 0, none⟩) 1 1, .map (some mb)] 28)) w') := C1
  have s0 : (u1.alloc (.cells #[.int .i64 8, .slice (some ⟨g, 0, none⟩) 1 1, .map (some mb)] 28)).cell? ⟨w.heap.size, 0, none⟩ = some (.int .i64 rt) := Blk.cell (Blk.below SB.out P1.out.bel) 0
  have s1 : (u1.alloc (.cells #[.int .i64 8, .slice (some ⟨g, 0, none⟩) 1 1, .map (some mb)] 28)).cell? ⟨w.heap.size, 1, none⟩ = some (.int .u64 ad) := Blk.cell (Blk.below SB.out P1.out.bel) 1
  have s2 : (u1.alloc (.cells #[.int .i64 8, .slice (some ⟨g, 0, none⟩) 1 1, .map (some mb)] 28)).cell? ⟨w.heap.size, 2, none⟩ = some (.bool x) := Blk.cell (Blk.below SB.out P1.out.bel) 2
  have s3 : (u1.alloc (.cells #[.int .i64 8, .slice (some ⟨g, 0, none⟩) 1 1, .map (some mb)] 28)).cell? ⟨w.heap.size, 3, none⟩ = some (.bool u) := Blk.cell (Blk.below SB.out P1.out.bel) 3
  have s4 : (u1.alloc (.cells #[.int .i64 8, .slice (some ⟨g, 0, none⟩) 1 1, .map (some mb)] 28)).cell? ⟨w.heap.size, 4, none⟩ = some (.bool f) := Blk.cell (Blk.below SB.out P1.out.bel) 4
  go_wp2_with fail
  refine C1.out.mono ?_
  rintro e u2 ⟨rfl, h2, k2⟩
  obtain ⟨K2, k2a, k2b, k2c, h3⟩ := h2.box2 (.cells #[.int .i64 fr1, .bool pw1, .bool pu1, .bool px1, .bool g1, .bool l1, .bool d1] 40) (.cells #[.int .u64 fa1, .int .i64 fc1] 42)
  have P2 : Hid (Play (w.alloc (.cells #[.int .i64 rt, .int .u64 ad, .bool x, .bool u, .bool f] 36)) ((u2.alloc (.cells #[.int .i64 fr1, .bool pw1, .bool pu1, .bool px1, .bool g1, .bool l1, .bool d1] 40)).alloc (.cells #[.int .u64 fa1, .int .i64 fc1] 42)) K2 S rb 8 [(7, 8)] g 1 mb xb M1 M0 88 320) := h3
  have KK : Hid (K2 u2.heap.size ∧ K2 (u2.heap.size + 1)) := ⟨k2b, k2c⟩
  have lu : w.heap.size < u2.heap.size := Nat.lt_of_lt_of_le (by rw [World.size_alloc]; omega) h2.bel.size
  have t0 : u2.cell? ⟨w.heap.size, 0, none⟩ = some (.int .i64 rt) := Blk.cell (Blk.below SB.out h2.bel) 0
  have t1 : u2.cell? ⟨w.heap.size, 1, none⟩ = some (.int .u64 ad) := Blk.cell (Blk.below SB.out h2.bel) 1
  have t2 : u2.cell? ⟨w.heap.size, 2, none⟩ = some (.bool x) := Blk.cell (Blk.below SB.out h2.bel) 2
  have t3 : u2.cell? ⟨w.heap.size, 3, none⟩ = some (.bool u) := Blk.cell (Blk.below SB.out h2.bel) 3
  have t4 : u2.cell? ⟨w.heap.size, 4, none⟩ = some (.bool f) := Blk.cell (Blk.below SB.out h2.bel) 4
  clear C1 P1 h2 k2 k2a k2b k2c h3 s0 s1 s2 s3 s4
  have hu : IntKind.u64.wrap a2 = a2 := by rw [IntKind.wrap_u64]; omega
  have hq : IntKind.u64.wrap (ad - ad % 4096) = ad - ad % 4096 := by rw [IntKind.wrap_u64]; omega
  have ho : IntKind.u64.wrap (ad - ad % 4096 + a2) = ad - ad % 4096 + a2 := by rw [IntKind.wrap_u64]; omega
  obtain ⟨pg, q0, q1⟩ := page_of (ad := ad) (off := a2) hb1.1 hb1.2 (by omega) (by omega)
  obtain ⟨fa2, M2, C2, F9⟩ : ∃ (fa2 : Int) (M2 : Int → Int), Hid (Calls Tryd.prog 11 #[.pointer (some ⟨rb, 0, none⟩), .int .i64 rt, .int .u64 (ad - ad % 4096 + a2), .agg #[.bool x, .bool u, .bool f]] ((u2.alloc (.cells #[.int .i64 fr1, .bool pw1, .bool pu1, .bool px1, .bool g1, .bool l1, .bool d1] 40)).alloc (.cells #[.int .u64 fa1, .int .i64 fc1] 42)) fun e w' => e = .returned (.tuple #[.agg #[.int .i64 fr1, .bool pw1, .bool pu1, .bool px1, .bool g1, .bool l1, .bool d1], .agg #[.int .u64 fa2, .int .i64 fc1], .int .i64 er1]) ∧ Play (w.alloc (.cells #[.int .i64 rt, .int .u64 ad, .bool x, .bool u, .bool f] 36)) w' K2 S rb 8 [(7, 8)] g 1 mb xb M2 M0 96 320 ∧ Kept K2 ((u2.alloc (.cells #[.int .i64 fr1, .bool pw1, .bool pu1, .bool px1, .bool g1, .bool l1, .bool d1] 40)).alloc (.cells #[.int .u64 fa1, .int .i64 fc1] 42)) w') ∧ Hid (er1 = 9 → fa1 = ad ∧ fa2 = ad - ad % 4096 + a2) := by
    have hM1 : ∀ t, 0 ≤ M1 t ∧ M1 t < 256 := P2.out.ram.ram.byte
    have C2 := walk_play P2.out T1.out (by have := MX.out; omega) rt (ad - ad % 4096 + a2) q0 q1 x u f
    have ag := again HM.out rt (a := ad) (b := ad - ad % 4096 + a2) x u f (by rw [← H1.out]; exact hM1) pg hb1.1 hb1.2 q0 q1
    rw [← H1.out] at ag
    obtain ⟨sm, sd⟩ := ag
    generalize walkW Has8 M1 rt (ad - ad % 4096 + a2) x u f = r2 at C2 sm sd
    obtain ⟨er2, fa2, fc2, fr2, pw2, pu2, px2, g2, l2, d2, M2⟩ := r2
    obtain ⟨e1, e2, e3, e4, e5, e6, e7, e8, e9⟩ := sm
    simp only at e1 e2 e3 e4 e5 e6 e7 e8 e9 sd
    subst e1 e2 e3 e4 e5 e6 e7 e8 sd
    exact ⟨fa2, M2, C2, e9⟩
  clear H1 HM pg q0 q1
  have m2 := made_2 u2 [.int .i64 fr1, .bool pw1, .bool pu1, .bool px1, .bool g1, .bool l1, .bool d1] [.int .u64 fa1, .int .i64 fc1] 40 42
  have MD : Hid _ := m2
  clear m2
  go_wp2_with fail
  refine C2.out.mono ?_
  rintro e u3 ⟨rfl, h4, k4⟩
  have Z9 : Hid (Blk u3 u2.heap.size [.int .i64 fr1, .bool pw1, .bool pu1, .bool px1, .bool g1, .bool l1, .bool d1] 40) := Blk.kept MD.out.1 k4 KK.out.1
  have Z10 : Hid (Blk u3 (u2.heap.size + 1) [.int .u64 fa1, .int .i64 fc1] 42) := Blk.kept MD.out.2 k4 KK.out.2
  have BU : Hid (Below w.heap.size w ((u3.alloc (.cells #[.int .i64 fr1, .bool pw1, .bool pu1, .bool px1, .bool g1, .bool l1, .bool d1] 40)).alloc (.cells #[.int .u64 fa2, .int .i64 fc1] 42))) := below_new (below_new (below_next BW.out h4.bel) _) _
  have lu3 : w.heap.size < u3.heap.size := Nat.lt_of_lt_of_le (by rw [World.size_alloc]; omega) h4.bel.size
  have l9 : u2.heap.size < u3.heap.size := blk_lt Z9.out
  have l10 : u2.heap.size + 1 < u3.heap.size := blk_lt Z10.out
  have v0 : u3.cell? ⟨w.heap.size, 0, none⟩ = some (.int .i64 rt) := Blk.cell (Blk.below SB.out h4.bel) 0
  have v1 : u3.cell? ⟨w.heap.size, 1, none⟩ = some (.int .u64 ad) := Blk.cell (Blk.below SB.out h4.bel) 1
  have v2 : u3.cell? ⟨w.heap.size, 2, none⟩ = some (.bool x) := Blk.cell (Blk.below SB.out h4.bel) 2
  have v3 : u3.cell? ⟨w.heap.size, 3, none⟩ = some (.bool u) := Blk.cell (Blk.below SB.out h4.bel) 3
  have v4 : u3.cell? ⟨w.heap.size, 4, none⟩ = some (.bool f) := Blk.cell (Blk.below SB.out h4.bel) 4
  have y0 : u3.cell? ⟨u2.heap.size + 1, 0, none⟩ = some (.int .u64 fa1) := Blk.cell Z10.out 0
  have y1 : u3.cell? ⟨u2.heap.size + 1, 1, none⟩ = some (.int .i64 fc1) := Blk.cell Z10.out 1
  have m3 := made_2 u3 [.int .i64 fr1, .bool pw1, .bool pu1, .bool px1, .bool g1, .bool l1, .bool d1] [.int .u64 fa2, .int .i64 fc1] 40 42
  have Z13 : Hid (Blk ((u3.alloc (.cells #[.int .i64 fr1, .bool pw1, .bool pu1, .bool px1, .bool g1, .bool l1, .bool d1] 40)).alloc (.cells #[.int .u64 fa2, .int .i64 fc1] 42)) u3.heap.size [.int .i64 fr1, .bool pw1, .bool pu1, .bool px1, .bool g1, .bool l1, .bool d1] 40) := m3.1
  have Z9' : Hid (Blk ((u3.alloc (.cells #[.int .i64 fr1, .bool pw1, .bool pu1, .bool px1, .bool g1, .bool l1, .bool d1] 40)).alloc (.cells #[.int .u64 fa2, .int .i64 fc1] 42)) u2.heap.size [.int .i64 fr1, .bool pw1, .bool pu1, .bool px1, .bool g1, .bool l1, .bool d1] 40) := Blk.below Z9.out (Go.Joins.below_alloc2 _ _ _)
  clear C2 P2 MD KK h4 k4 m3 Z9 Z10 t0 t1 t2 t3 t4 SB T1
  have n0 : (er1 != er1) = false := by simp
  have n1 : (fc1 != fc1) = false := by simp
  have EF : ∀ W : World, (binOp .eql 40 (.agg #[.int .i64 fr1, .bool pw1, .bool pu1, .bool px1, .bool g1, .bool l1, .bool d1]) (.agg #[.int .i64 fr1, .bool pw1, .bool pu1, .bool px1, .bool g1, .bool l1, .bool d1])).run Tryd.prog W = .ok (.bool true) W := fun W => (eqFd ⟨fr1, pw1, pu1, px1, g1, l1, d1⟩ ⟨fr1, pw1, pu1, px1, g1, l1, d1⟩ W).trans (by simp)
  by_cases e9 : er1 = 9
  · obtain ⟨fe1, fe2⟩ := F9.out e9
    subst fe1 fe2
    have b9 : (er1 == 9) = true := by simp [e9]
    have n2 : (fa1 != fa1) = false := by simp
    have n3 : (fa1 - fa1 % 4096 + a2 != fa1 - fa1 % 4096 + a2) = false := by simp
    clear F9
    go_wp2_with fail
    refine (AW.out _ BU.out).mono ?_
    rintro e u4 ⟨rfl, hb⟩
    have B4 : Hid (Below w.heap.size w u4) := below_next BU.out hb
    have ZA : Hid (Blk u4 u2.heap.size [.int .i64 fr1, .bool pw1, .bool pu1, .bool px1, .bool g1, .bool l1, .bool d1] 40) := Blk.below Z9'.out hb
    have ZB : Hid (Blk u4 u3.heap.size [.int .i64 fr1, .bool pw1, .bool pu1, .bool px1, .bool g1, .bool l1, .bool d1] 40) := Blk.below Z13.out hb
    clear hb Z9' Z13 BU
    have za0 : u4.cell? ⟨u2.heap.size, 0, none⟩ = some (.int .i64 fr1) := Blk.cell ZA.out 0
    have zb0 : u4.cell? ⟨u3.heap.size, 0, none⟩ = some (.int .i64 fr1) := Blk.cell ZB.out 0
    have za1 : u4.cell? ⟨u2.heap.size, 1, none⟩ = some (.bool pw1) := Blk.cell ZA.out 1
    have zb1 : u4.cell? ⟨u3.heap.size, 1, none⟩ = some (.bool pw1) := Blk.cell ZB.out 1
    have za2 : u4.cell? ⟨u2.heap.size, 2, none⟩ = some (.bool pu1) := Blk.cell ZA.out 2
    have zb2 : u4.cell? ⟨u3.heap.size, 2, none⟩ = some (.bool pu1) := Blk.cell ZB.out 2
    have za3 : u4.cell? ⟨u2.heap.size, 3, none⟩ = some (.bool px1) := Blk.cell ZA.out 3
    have zb3 : u4.cell? ⟨u3.heap.size, 3, none⟩ = some (.bool px1) := Blk.cell ZB.out 3
    have za4 : u4.cell? ⟨u2.heap.size, 4, none⟩ = some (.bool g1) := Blk.cell ZA.out 4
    have zb4 : u4.cell? ⟨u3.heap.size, 4, none⟩ = some (.bool g1) := Blk.cell ZB.out 4
    have za5 : u4.cell? ⟨u2.heap.size, 5, none⟩ = some (.bool l1) := Blk.cell ZA.out 5
    have zb5 : u4.cell? ⟨u3.heap.size, 5, none⟩ = some (.bool l1) := Blk.cell ZB.out 5
    have za6 : u4.cell? ⟨u2.heap.size, 6, none⟩ = some (.bool d1) := Blk.cell ZA.out 6
    have zb6 : u4.cell? ⟨u3.heap.size, 6, none⟩ = some (.bool d1) := Blk.cell ZB.out 6
    go_wp2_with fail
    go_ret
    exact ⟨rfl, B4.out⟩
  have b9 : (er1 == 9) = false := by simpa using e9
  clear F9
  go_wp2_with fail
  refine (AW.out _ BU.out).mono ?_
  rintro e u4 ⟨rfl, hb⟩
  have B4 : Hid (Below w.heap.size w u4) := below_next BU.out hb
  have ZA : Hid (Blk u4 u2.heap.size [.int .i64 fr1, .bool pw1, .bool pu1, .bool px1, .bool g1, .bool l1, .bool d1] 40) := Blk.below Z9'.out hb
  have ZB : Hid (Blk u4 u3.heap.size [.int .i64 fr1, .bool pw1, .bool pu1, .bool px1, .bool g1, .bool l1, .bool d1] 40) := Blk.below Z13.out hb
  clear hb Z9' Z13 BU
  have za0 : u4.cell? ⟨u2.heap.size, 0, none⟩ = some (.int .i64 fr1) := Blk.cell ZA.out 0
  have zb0 : u4.cell? ⟨u3.heap.size, 0, none⟩ = some (.int .i64 fr1) := Blk.cell ZB.out 0
  have za1 : u4.cell? ⟨u2.heap.size, 1, none⟩ = some (.bool pw1) := Blk.cell ZA.out 1
  have zb1 : u4.cell? ⟨u3.heap.size, 1, none⟩ = some (.bool pw1) := Blk.cell ZB.out 1
  have za2 : u4.cell? ⟨u2.heap.size, 2, none⟩ = some (.bool pu1) := Blk.cell ZA.out 2
  have zb2 : u4.cell? ⟨u3.heap.size, 2, none⟩ = some (.bool pu1) := Blk.cell ZB.out 2
  have za3 : u4.cell? ⟨u2.heap.size, 3, none⟩ = some (.bool px1) := Blk.cell ZA.out 3
  have zb3 : u4.cell? ⟨u3.heap.size, 3, none⟩ = some (.bool px1) := Blk.cell ZB.out 3
  have za4 : u4.cell? ⟨u2.heap.size, 4, none⟩ = some (.bool g1) := Blk.cell ZA.out 4
  have zb4 : u4.cell? ⟨u3.heap.size, 4, none⟩ = some (.bool g1) := Blk.cell ZB.out 4
  have za5 : u4.cell? ⟨u2.heap.size, 5, none⟩ = some (.bool l1) := Blk.cell ZA.out 5
  have zb5 : u4.cell? ⟨u3.heap.size, 5, none⟩ = some (.bool l1) := Blk.cell ZB.out 5
  have za6 : u4.cell? ⟨u2.heap.size, 6, none⟩ = some (.bool d1) := Blk.cell ZA.out 6
  have zb6 : u4.cell? ⟨u3.heap.size, 6, none⟩ = some (.bool d1) := Blk.cell ZB.out 6
  go_wp2_with fail
  go_ret
  exact ⟨rfl, B4.out⟩

set_option maxRecDepth 100000 in
theorem lifted (os : Os) (started : os.Started) (H : Type) (enc : TypeId × Value → H) :
    ReturnsInHanded {} Tryd.checked os 8 .any (fun w args => (Rows.walkPagesSpec.pre enc Tryd.prog Tryd.f8 [] false w args ∧ laidMetH Tryd.prog laidL w) ∧ sizedMet enc Tryd.prog Tryd.f8 (OpenSpec.ofChange Rows.walkPagesSpec) false w args)
      (Rows.walkPagesSpec.post enc Tryd.prog Tryd.f8 false true false false) := by
  refine returnsInHanded_of_change_and (C := Tryd.checked) (X := fun w _ => laidMetH Tryd.prog laidL w) (fun _ _ _ hh h => h.of_heap hh) own started (by kernel_rfl) Tryd.func8
    (ChangeSpec.witness_shaped (enc := enc) (C := Tryd.checked) (os := os) (X := fun w _ => laidMetH Tryd.prog laidL w) false (World.doorLaid Tryd.prog 400 os) #[.slice none 0 0, .agg #[.int .i64 0, .int .u64 0, .bool false, .bool false, .bool false], .int .i64 0] 8 rfl (World.shaped_of_RefB (by kernel_rfl) (by kernel_rfl)) (by kernel_rfl) (by kernel_rfl) (by kernel_rfl) (door_met os _)) ?_
  intro W base args ds gs before hval0 hW _ _ hL _
  have hval : ∀ (j : Nat) t v, Tryd.f8.params[j]? = some t → args[j]? = some v → Value.okWide Tryd.prog W .any base t v := hval0
  have hW' := hW
  obtain ⟨p, q, hA0, hV, hbef, hfz, hnd⟩ := hW
  have hA : DataW.TrodAll enc Tryd.prog W 0 (fun _ => true) true Tryd.f8.params.toList args.toList ds p := hA0
  have hAk := hA
  have hlt : ∀ x ∈ p, x.block < W.heap.size := fun x hx => hW'.lt x (by rw [hbef]; exact List.mem_append_left _ hx)
  rw [Tryd.params8] at hA hval
  obtain ⟨v0, vs0, d0, ds0, p0, q0, hargs, rfl, hp0, h0, r0⟩ := trodAll_cons hA
  obtain ⟨v1, vs1, d1, ds1, p1, q1, rfl, rfl, hp1, h1, r1⟩ := trodAll_cons r0
  obtain ⟨v2, vs2, d2, ds2, p2, q2, rfl, rfl, hp2, h2, r2⟩ := trodAll_cons r1
  obtain ⟨rfl, rfl, hpz⟩ := trodAll_nil r2
  obtain rfl : args = #[v0, v1, v2] := by cases args; simp_all
  obtain ⟨rfl, rfl⟩ := trodVars_none hV
  obtain ⟨p0, n0, c0, A0, rfl, m0, H0⟩ := open_puts (hval 0 22 v0 rfl rfl) h0
  obtain ⟨s1, rfl, w1⟩ := open_step (hval 1 36 v1 rfl rfl) h1
  obtain ⟨a2, rfl, _, _, w2⟩ := open_int Tryd.underlying3 (hval 2 3 v2 rfl rfl) h2
  clear hA0 hval0
  refine (walk p0 n0 c0 A0 m0 s1 w1 a2 w2 W (of_laid hL) H0).mono fun e W' ⟨he, hg⟩ => ?_
  subst he
  exact ⟨_, rfl, ⟨_, _, _, [], p, [], hW', (trodAll_cons_mk (shut_bool Tryd.underlying4 _) trodAll_mk0), args_stay laidOut hg (by kernel_rfl) hAk hlt, rfl, hg.frame _, fun h => by cases h⟩⟩

theorem over : Rows.walkPagesRow.holds Tryd.pinned (OpenSpec.ofChange Rows.walkPagesSpec) :=
  OpenClaim.holds_of_wide 8 Tryd.f8 rfl rfl rfl rfl rfl rfl rfl ⟨rfl, rfl, rfl, rfl, rfl⟩ rfl rfl rfl rfl rfl (by kernel_rfl) Tryd.func8 (by kernel_rfl)
    (of_decide_eq_true (by kernel_rfl)) (by unfold Func.isWrapper; first | (rw [if_pos (by decide +kernel)]; kernel_rfl) | (rw [if_neg (by decide +kernel)]; exact ⟨rfl, rfl⟩))
    (fun os started H enc _ => lifted os started H enc)

theorem proved : Rows.WalkPagesCardSaid :=
  Claim7.holds_tied_plain_at .later [] [.data] true (true, "2a6e59ec9e225d64675e460dcd5b1b0b3cd5b025de7b313b17a7fe5eb85b0249") true
    over (fun _ h => by cases h) (by kernel_rfl) (fun _ h => by cases h) walkPages_row_tie rfl ⟨rfl, rfl⟩ (by kernel_rfl) rfl
    (fun f fn hf hfn => by
      obtain rfl : f = 8 := Option.some.inj ((show Tryd.prog.funcNamed "demesne/demesnelaw04.WalkPages" = some 8 by kernel_rfl).symm.trans hf) |>.symm
      obtain rfl : fn = Tryd.f8 := (Option.some.inj (Tryd.func8.symm.trans hfn)).symm
      exact ⟨by kernel_rfl, fun j t ht => by
        rw [Tryd.params8] at ht
        have hm : t ∈ [22, 36, 3] := by simpa using Array.mem_of_getElem? ht
        have hall : ([22, 36, 3].all fun u => !Tryd.prog.wantsStandIn u) = true := by kernel_rfl
        exact (show Tryd.prog.wantsStandIn t = false by simpa using List.all_eq_true.1 hall t hm)⟩)
    (by kernel_rfl)
#print axioms proved
end Go.Proofs.YtkbkikbcpllknaaDoor.walkPages
