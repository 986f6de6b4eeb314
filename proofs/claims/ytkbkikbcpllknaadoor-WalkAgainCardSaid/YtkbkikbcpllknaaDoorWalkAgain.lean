/- WalkAgain: what was found is found again, and for less access too, but for whether it was written to; what was refused for an access is refused for a greater one. No condition. -/
import Derived.Test.YtkbkikbcpllknaaDoorRows
import Derived.Test.YtkbkikbcpllknaaDoorCards
import Derived.Test.YtkbkikbcpllknaaDoorTie
import Derived.ProofKit
import Derived.OpenShut
import Derived.Stop.Joined
import Derived.SevenTiedAt
import Derived.Test.YtkbkikbcpllknaaDoorV3
import Derived.Deep.DeepCutAuto
namespace Go.Proofs.YtkbkikbcpllknaaDoor.walkAgain
open Go.ChangeShapes Go.WideShapes Go.ChangeAt Go.RowKit
set_option linter.unusedSimpArgs false
set_option linter.unusedVariables false
set_option maxRecDepth 8000
/-- a greater access -/
theorem greater {M : Int → Int} (hM : ∀ t, 0 ≤ M t ∧ M t < 256) (root addr : Int) (x u f x' u' f' : Bool) :
    ((walkW Has8 M root addr x u f).er ≠ 0 → (walkW Has8 M root addr (x || x') (u || u') (f || f')).er = (walkW Has8 M root addr x u f).er) ∧
    ((walkW Has8 M root addr x u f).er = 0 →
      mayV (walkW Has8 M root addr x u f).pw (walkW Has8 M root addr x u f).pu (walkW Has8 M root addr x u f).px x u f = true ∧
      (((walkW Has8 M root addr (x || x') (u || u') (f || f')).er = 9 ∧ mayV (walkW Has8 M root addr x u f).pw (walkW Has8 M root addr x u f).pu (walkW Has8 M root addr x u f).px (x || x') (u || u') (f || f') = false) ∨
       ((walkW Has8 M root addr (x || x') (u || u') (f || f')).er = 0 ∧ (walkW Has8 M root addr (x || x') (u || u') (f || f')).fr = (walkW Has8 M root addr x u f).fr ∧ (walkW Has8 M root addr (x || x') (u || u') (f || f')).pw = (walkW Has8 M root addr x u f).pw ∧ (walkW Has8 M root addr (x || x') (u || u') (f || f')).pu = (walkW Has8 M root addr x u f).pu ∧ (walkW Has8 M root addr (x || x') (u || u') (f || f')).px = (walkW Has8 M root addr x u f).px ∧ (walkW Has8 M root addr (x || x') (u || u') (f || f')).l = (walkW Has8 M root addr x u f).l))) := by
  rcases walk_core hM Has8 root addr with ⟨e, he, hw⟩ | ⟨h, hw⟩
  · obtain ⟨a, c, q⟩ := hw x u f
    obtain ⟨a', c', q'⟩ := hw (x || x') (u || u') (f || f')
    rw [q, q']
    exact ⟨fun _ => rfl, fun h0 => absurd h0 he⟩
  · cases hm : mayV h.pw h.pu h.px x u f with
    | false =>
      obtain ⟨a, c, q⟩ := (hw x u f).1 hm
      have hm2 : mayV h.pw h.pu h.px (x || x') (u || u') (f || f') = false := by
        revert hm; unfold mayV
        cases h.pw <;> cases h.pu <;> cases h.px <;> cases x <;> cases u <;> cases f <;> cases x' <;> cases u' <;> cases f' <;> simp
      obtain ⟨a', c', q'⟩ := (hw (x || x') (u || u') (f || f')).1 hm2
      rw [q, q']
      exact ⟨fun _ => rfl, fun h0 => absurd h0 (by show (9 : Int) ≠ 0; omega)⟩
    | true =>
      have k := (hw x u f).2 hm
      refine ⟨fun hn => absurd k.er hn, fun _ => ⟨by rw [k.pw, k.pu, k.px]; exact hm, ?_⟩⟩
      cases hm2 : mayV h.pw h.pu h.px (x || x') (u || u') (f || f') with
      | false =>
        obtain ⟨a', c', q'⟩ := (hw (x || x') (u || u') (f || f')).1 hm2
        exact Or.inl ⟨by rw [q']; rfl, by rw [k.pw, k.pu, k.px]; exact hm2⟩
      | true =>
        have k2 := (hw (x || x') (u || u') (f || f')).2 hm2
        exact Or.inr ⟨k2.er, k2.fr.trans k.fr.symm, k2.pw.trans k.pw.symm, k2.pu.trans k.pu.symm, k2.px.trans k.px.symm, k2.l.trans k.l.symm⟩

set_option maxHeartbeats 8000000 in
theorem walk (p0 : Option Addr) (n0 c0 : Nat) (A0 : Nat → Pt) (m0 : n0 ≤ maxLen) (s1 : Sp) (w1 : (Lit.int .i64 (s1.rt)).wf = true ∧ (Lit.int .u64 (s1.ad)).wf = true ∧ True) (s2 : B3) (w : World) (ht : Tab w) (H0 : IsPuts w p0 n0 A0) :
    Calls Tryd.prog 5 #[.slice p0 n0 c0, s1.val, s2.val] w fun e w' => e = .returned (.bool true) ∧ Below w.heap.size w w' := by
  have mx : 1000 < maxLen := by decide +kernel
  have MX : Hid (1000 < maxLen) := mx
  clear mx
  have AW : Hid (∀ W : World, Below w.heap.size w W → Calls Tryd.prog 10 #[] W fun e w' => e = .returned (.bool true) ∧ Below W.heap.size W w') := fun W hb => awake_any W (ht.below hb ht.1)
  obtain ⟨rt, ad, x, u, f⟩ := s1
  obtain ⟨mx0, mx1, mx2⟩ := s2
  have hb1 := wf_u64 w1.2.1
  clear w1
  have mk1 := made_2 w [.int .i64 rt, .int .u64 ad, .bool x, .bool u, .bool f] [.bool mx0, .bool mx1, .bool mx2] 36 34
  have SB : Hid (Blk ((w.alloc (.cells #[.int .i64 rt, .int .u64 ad, .bool x, .bool u, .bool f] 36)).alloc (.cells #[.bool mx0, .bool mx1, .bool mx2] 34)) w.heap.size [.int .i64 rt, .int .u64 ad, .bool x, .bool u, .bool f] 36) := mk1.1
  have MB : Hid (Blk ((w.alloc (.cells #[.int .i64 rt, .int .u64 ad, .bool x, .bool u, .bool f] 36)).alloc (.cells #[.bool mx0, .bool mx1, .bool mx2] 34)) (w.heap.size + 1) [.bool mx0, .bool mx1, .bool mx2] 34) := mk1.2
  clear mk1
  have BW : Hid (Below w.heap.size w ((w.alloc (.cells #[.int .i64 rt, .int .u64 ad, .bool x, .bool u, .bool f] 36)).alloc (.cells #[.bool mx0, .bool mx1, .bool mx2] 34))) := Go.Joins.below_alloc2 _ _ _
  have T1 : Hid (Tab ((w.alloc (.cells #[.int .i64 rt, .int .u64 ad, .bool x, .bool u, .bool f] 36)).alloc (.cells #[.bool mx0, .bool mx1, .bool mx2] 34))) := ht.keep (Go.Joins.below_alloc2 _ _ _)
  obtain ⟨M0, hM0⟩ : ∃ M0, M0 = layM A0 (min n0 40) := ⟨_, rfl⟩
  have LY : Hid (Calls Tryd.prog 9 #[.slice p0 n0 c0] ((w.alloc (.cells #[.int .i64 rt, .int .u64 ad, .bool x, .bool u, .bool f] 36)).alloc (.cells #[.bool mx0, .bool mx1, .bool mx2] 34)) fun e w' => ∃ (rb g mb xb : Nat) (K : Nat → Prop) (S : List Nat), e = .returned (.tuple #[.pointer (some ⟨rb, 0, none⟩), .agg #[.int .i64 8, .slice (some ⟨g, 0, none⟩) 1 1, .map (some mb)]]) ∧ Play ((w.alloc (.cells #[.int .i64 rt, .int .u64 ad, .bool x, .bool u, .bool f] 36)).alloc (.cells #[.bool mx0, .bool mx1, .bool mx2] 34)) w' K S rb 8 [(7, 8)] g 1 mb xb M0 M0 80 320) := by
    rw [hM0]; exact lay_ex p0 n0 c0 A0 m0 ((w.alloc (.cells #[.int .i64 rt, .int .u64 ad, .bool x, .bool u, .bool f] 36)).alloc (.cells #[.bool mx0, .bool mx1, .bool mx2] 34)) (H0.below (Go.Joins.below_alloc2 _ _ _))
  clear hM0 H0
  go_enter Tryd.func5, Tryd.ntmps5
  go_wp2_with fail
  refine LY.out.mono ?_
  rintro e u1 ⟨rb, g, mb, xb, K, S, rfl, h1⟩
  obtain ⟨K1, k1a, k1b, h9⟩ := h1.box1 (.cells #[.int .i64 8, .slice (some ⟨g, 0, none⟩) 1 1, .map (some mb)] 28)
  have P1 : Hid (Play ((w.alloc (.cells #[.int .i64 rt, .int .u64 ad, .bool x, .bool u, .bool f] 36)).alloc (.cells #[.bool mx0, .bool mx1, .bool mx2] 34)) (u1.alloc (.cells #[.int .i64 8, .slice (some ⟨g, 0, none⟩) 1 1, .map (some mb)] 28)) K1 S rb 8 [(7, 8)] g 1 mb xb M0 M0 80 320) := h9
  clear LY h1 h9 k1a k1b
  have hM : ∀ t, 0 ≤ M0 t ∧ M0 t < 256 := P1.out.ram.ram.byte
  obtain ⟨r1, hr1⟩ : ∃ r1, r1 = walkW Has8 M0 rt ad x u f := ⟨_, rfl⟩
  have C1 : Calls Tryd.prog 11 #[.pointer (some ⟨rb, 0, none⟩), .int .i64 rt, .int .u64 ad, .agg #[.bool x, .bool u, .bool f]] (u1.alloc (.cells #[.int .i64 8, .slice (some ⟨g, 0, none⟩) 1 1, .map (some mb)] 28)) fun e w' => e = .returned r1.val ∧ Play ((w.alloc (.cells #[.int .i64 rt, .int .u64 ad, .bool x, .bool u, .bool f] 36)).alloc (.cells #[.bool mx0, .bool mx1, .bool mx2] 34)) w' K1 S rb 8 [(7, 8)] g 1 mb xb r1.M M0 88 320 ∧ Kept K1 (u1.alloc (.cells #[.int .i64 8, .slice (some ⟨g, 0, none⟩) 1 1, .map (some mb)] 28)) w' := by
    rw [hr1]; exact walk_play P1.out T1.out (by have := MX.out; omega) rt ad hb1.1 hb1.2 x u f
  have H1 : Hid (r1 = walkW Has8 M0 rt ad x u f) := hr1
  have HM : Hid (∀ t, 0 ≤ M0 t ∧ M0 t < 256) := hM
  clear hr1 hM
  obtain ⟨er1, fa1, fc1, fr1, pw1, pu1, px1, g1, l1, d1, M1⟩ := r1
  have C1 : Hid (Calls Tryd.prog 11 #[.pointer (some ⟨rb, 0, none⟩), .int .i64 rt, .int .u64 ad, .agg #[.bool x, .bool u, .bool f]] (u1.alloc (.cells #[.int .i64 8, .slice (some ⟨g, 0, none⟩) 1 1, .map (some mb)] 28)) fun e w' => e = .returned (.tuple #[.agg #[.int .i64 fr1, .bool pw1, .bool pu1, .bool px1, .bool g1, .bool l1, .bool d1], .agg #[.int .u64 fa1, .int .i64 fc1], .int .i64 er1]) ∧ Play ((w.alloc (.cells #[.int .i64 rt, .int .u64 ad, .bool x, .bool u, .bool f] 36)).alloc (.cells #[.bool mx0, .bool mx1, .bool mx2] 34)) w' K1 S rb 8 [(7, 8)] g 1 mb xb M1 M0 88 320 ∧ Kept K1 (u1.alloc (.cells #[.int .i64 8, .slice (some ⟨g, 0, none⟩) 1 1, .map (some mb)] 28)) w') := C1
  have s0 : (u1.alloc (.cells #[.int .i64 8, .slice (some ⟨g, 0, none⟩) 1 1, .map (some mb)] 28)).cell? ⟨w.heap.size, 0, none⟩ = some (.int .i64 rt) := Blk.cell (Blk.below SB.out P1.out.bel) 0
  have s1 : (u1.alloc (.cells #[.int .i64 8, .slice (some ⟨g, 0, none⟩) 1 1, .map (some mb)] 28)).cell? ⟨w.heap.size, 1, none⟩ = some (.int .u64 ad) := Blk.cell (Blk.below SB.out P1.out.bel) 1
  have s2 : (u1.alloc (.cells #[.int .i64 8, .slice (some ⟨g, 0, none⟩) 1 1, .map (some mb)] 28)).cell? ⟨w.heap.size, 2, none⟩ = some (.bool x) := Blk.cell (Blk.below SB.out P1.out.bel) 2
  have s3 : (u1.alloc (.cells #[.int .i64 8, .slice (some ⟨g, 0, none⟩) 1 1, .map (some mb)] 28)).cell? ⟨w.heap.size, 3, none⟩ = some (.bool u) := Blk.cell (Blk.below SB.out P1.out.bel) 3
  have s4 : (u1.alloc (.cells #[.int .i64 8, .slice (some ⟨g, 0, none⟩) 1 1, .map (some mb)] 28)).cell? ⟨w.heap.size, 4, none⟩ = some (.bool f) := Blk.cell (Blk.below SB.out P1.out.bel) 4
  go_wp2_with fail
  refine C1.out.mono ?_
  rintro e u2 ⟨rfl, h2, k2⟩
  obtain ⟨K2, k2a, k2b, k2c, h3⟩ := h2.box2 (.cells #[.int .i64 fr1, .bool pw1, .bool pu1, .bool px1, .bool g1, .bool l1, .bool d1] 40) (.cells #[.int .u64 fa1, .int .i64 fc1] 42)
  have P2 : Hid (Play ((w.alloc (.cells #[.int .i64 rt, .int .u64 ad, .bool x, .bool u, .bool f] 36)).alloc (.cells #[.bool mx0, .bool mx1, .bool mx2] 34)) ((u2.alloc (.cells #[.int .i64 fr1, .bool pw1, .bool pu1, .bool px1, .bool g1, .bool l1, .bool d1] 40)).alloc (.cells #[.int .u64 fa1, .int .i64 fc1] 42)) K2 S rb 8 [(7, 8)] g 1 mb xb M1 M0 88 320) := h3
  have KK : Hid (K2 u2.heap.size ∧ K2 (u2.heap.size + 1)) := ⟨k2b, k2c⟩
  have lu : w.heap.size < u2.heap.size := Nat.lt_of_lt_of_le (by rw [World.size_alloc, World.size_alloc]; omega) h2.bel.size
  have t0 : u2.cell? ⟨w.heap.size, 0, none⟩ = some (.int .i64 rt) := Blk.cell (Blk.below SB.out h2.bel) 0
  have t1 : u2.cell? ⟨w.heap.size, 1, none⟩ = some (.int .u64 ad) := Blk.cell (Blk.below SB.out h2.bel) 1
  have t2 : u2.cell? ⟨w.heap.size, 2, none⟩ = some (.bool x) := Blk.cell (Blk.below SB.out h2.bel) 2
  have t3 : u2.cell? ⟨w.heap.size, 3, none⟩ = some (.bool u) := Blk.cell (Blk.below SB.out h2.bel) 3
  have t4 : u2.cell? ⟨w.heap.size, 4, none⟩ = some (.bool f) := Blk.cell (Blk.below SB.out h2.bel) 4
  clear C1 P1 h2 k2 k2a k2b k2c h3 s0 s1 s2 s3 s4
  obtain ⟨fa2, M2, C2, HL2, HN⟩ : ∃ (fa2 : Int) (M2 : Int → Int), Hid (Calls Tryd.prog 11 #[.pointer (some ⟨rb, 0, none⟩), .int .i64 rt, .int .u64 ad, .agg #[.bool x, .bool u, .bool f]] ((u2.alloc (.cells #[.int .i64 fr1, .bool pw1, .bool pu1, .bool px1, .bool g1, .bool l1, .bool d1] 40)).alloc (.cells #[.int .u64 fa1, .int .i64 fc1] 42)) fun e w' => e = .returned (.tuple #[.agg #[.int .i64 fr1, .bool pw1, .bool pu1, .bool px1, .bool g1, .bool l1, .bool d1], .agg #[.int .u64 fa2, .int .i64 fc1], .int .i64 er1]) ∧ Play ((w.alloc (.cells #[.int .i64 rt, .int .u64 ad, .bool x, .bool u, .bool f] 36)).alloc (.cells #[.bool mx0, .bool mx1, .bool mx2] 34)) w' K2 S rb 8 [(7, 8)] g 1 mb xb M2 M0 96 320 ∧ Kept K2 ((u2.alloc (.cells #[.int .i64 fr1, .bool pw1, .bool pu1, .bool px1, .bool g1, .bool l1, .bool d1] 40)).alloc (.cells #[.int .u64 fa1, .int .i64 fc1] 42)) w') ∧ Hid (Lkm M0 M2) ∧ Hid (er1 ≠ 0 → fr1 = 0 ∧ pw1 = false ∧ pu1 = false ∧ px1 = false ∧ g1 = false ∧ l1 = false ∧ d1 = false) := by
    have hM1 : ∀ t, 0 ≤ M1 t ∧ M1 t < 256 := P2.out.ram.ram.byte
    have C2 := walk_play P2.out T1.out (by have := MX.out; omega) rt ad hb1.1 hb1.2 x u f
    have ag := again HM.out rt (a := ad) (b := ad) x u f (by rw [← H1.out]; exact hM1) rfl hb1.1 hb1.2 hb1.1 hb1.2
    have lk1 := walk_lkm HM.out Has8 rt ad x u f
    have zz := walk_zero HM.out Has8 rt ad x u f
    rw [← H1.out] at ag lk1 zz
    have lk2 := walk_lkm hM1 Has8 rt ad x u f
    obtain ⟨sm, sd⟩ := ag
    simp only at lk1 zz
    generalize walkW Has8 M1 rt ad x u f = r2 at C2 sm sd lk2
    obtain ⟨er2, fa2, fc2, fr2, pw2, pu2, px2, g2, l2, d2, M2⟩ := r2
    obtain ⟨e1, e2, e3, e4, e5, e6, e7, e8, e9⟩ := sm
    simp only at e1 e2 e3 e4 e5 e6 e7 e8 e9 sd lk2
    subst e1 e2 e3 e4 e5 e6 e7 e8 sd
    exact ⟨fa2, M2, C2, lk1.trans lk2, fun hn => ⟨(zz hn).1, (zz hn).2.1, (zz hn).2.2.1, (zz hn).2.2.2.1, (zz hn).2.2.2.2.1, (zz hn).2.2.2.2.2.1, (zz hn).2.2.2.2.2.2.1⟩⟩
  have m2 := made_2 u2 [.int .i64 fr1, .bool pw1, .bool pu1, .bool px1, .bool g1, .bool l1, .bool d1] [.int .u64 fa1, .int .i64 fc1] 40 42
  have MD : Hid _ := m2
  clear m2
  go_wp2_with fail
  refine C2.out.mono ?_
  rintro e u3 ⟨rfl, h4, k4⟩
  have hM2 : ∀ t, 0 ≤ M2 t ∧ M2 t < 256 := h4.ram.ram.byte
  obtain ⟨gx, hgx⟩ : ∃ b, b = (x || mx0) := ⟨_, rfl⟩
  obtain ⟨gu, hgu⟩ : ∃ b, b = (u || mx1) := ⟨_, rfl⟩
  obtain ⟨gf, hgf⟩ : ∃ b, b = (f || mx2) := ⟨_, rfl⟩
  have HG : Hid (gx = (x || mx0) ∧ gu = (u || mx1) ∧ gf = (f || mx2)) := ⟨hgx, hgu, hgf⟩
  obtain ⟨K4, k4a, k4b, k4c, h5⟩ := h4.box2 (.cells #[.int .i64 fr1, .bool pw1, .bool pu1, .bool px1, .bool g1, .bool l1, .bool d1] 40) (.cells #[.int .u64 fa2, .int .i64 fc1] 42)
  obtain ⟨K5, k5a, k5b, h6⟩ := h5.box1 (.cells #[.bool gx, .bool gu, .bool gf] 34)
  have P3 : Hid (Play ((w.alloc (.cells #[.int .i64 rt, .int .u64 ad, .bool x, .bool u, .bool f] 36)).alloc (.cells #[.bool mx0, .bool mx1, .bool mx2] 34)) (((u3.alloc (.cells #[.int .i64 fr1, .bool pw1, .bool pu1, .bool px1, .bool g1, .bool l1, .bool d1] 40)).alloc (.cells #[.int .u64 fa2, .int .i64 fc1] 42)).alloc (.cells #[.bool gx, .bool gu, .bool gf] 34)) K5 S rb 8 [(7, 8)] g 1 mb xb M2 M0 96 320) := h6
  have m3 := made_2 u3 [.int .i64 fr1, .bool pw1, .bool pu1, .bool px1, .bool g1, .bool l1, .bool d1] [.int .u64 fa2, .int .i64 fc1] 40 42
  have gb := Blk.made ((u3.alloc (.cells #[.int .i64 fr1, .bool pw1, .bool pu1, .bool px1, .bool g1, .bool l1, .bool d1] 40)).alloc (.cells #[.int .u64 fa2, .int .i64 fc1] 42)) [.bool gx, .bool gu, .bool gf] 34
  rw [World.size_alloc, World.size_alloc] at gb k5b
  have KG : Hid (K5 (u3.heap.size + 1 + 1)) := k5b
  have GB : Hid (Blk (((u3.alloc (.cells #[.int .i64 fr1, .bool pw1, .bool pu1, .bool px1, .bool g1, .bool l1, .bool d1] 40)).alloc (.cells #[.int .u64 fa2, .int .i64 fc1] 42)).alloc (.cells #[.bool gx, .bool gu, .bool gf] 34)) (u3.heap.size + 1 + 1) [.bool gx, .bool gu, .bool gf] 34) := gb
  have Z9 : Hid (Blk u3 u2.heap.size [.int .i64 fr1, .bool pw1, .bool pu1, .bool px1, .bool g1, .bool l1, .bool d1] 40) := Blk.kept MD.out.1 k4 KK.out.1
  have Z9v : Hid (Blk (((u3.alloc (.cells #[.int .i64 fr1, .bool pw1, .bool pu1, .bool px1, .bool g1, .bool l1, .bool d1] 40)).alloc (.cells #[.int .u64 fa2, .int .i64 fc1] 42)).alloc (.cells #[.bool gx, .bool gu, .bool gf] 34)) u2.heap.size [.int .i64 fr1, .bool pw1, .bool pu1, .bool px1, .bool g1, .bool l1, .bool d1] 40) := Blk.below Z9.out (Go.Joins.below_alloc3 _ _ _ _)
  have K9 : Hid (K5 u2.heap.size) := k5a _ (k4a _ KK.out.1)
  have BM : Hid (Below ((w.alloc (.cells #[.int .i64 rt, .int .u64 ad, .bool x, .bool u, .bool f] 36)).alloc (.cells #[.bool mx0, .bool mx1, .bool mx2] 34)).heap.size ((w.alloc (.cells #[.int .i64 rt, .int .u64 ad, .bool x, .bool u, .bool f] 36)).alloc (.cells #[.bool mx0, .bool mx1, .bool mx2] 34)) (((u3.alloc (.cells #[.int .i64 fr1, .bool pw1, .bool pu1, .bool px1, .bool g1, .bool l1, .bool d1] 40)).alloc (.cells #[.int .u64 fa2, .int .i64 fc1] 42)).alloc (.cells #[.bool gx, .bool gu, .bool gf] 34))) := h6.bel
  have BM3 : Hid (Below ((w.alloc (.cells #[.int .i64 rt, .int .u64 ad, .bool x, .bool u, .bool f] 36)).alloc (.cells #[.bool mx0, .bool mx1, .bool mx2] 34)).heap.size ((w.alloc (.cells #[.int .i64 rt, .int .u64 ad, .bool x, .bool u, .bool f] 36)).alloc (.cells #[.bool mx0, .bool mx1, .bool mx2] 34)) u3) := h4.bel
  have lu3 : w.heap.size + 1 < u3.heap.size := Nat.lt_of_lt_of_le (by rw [World.size_alloc, World.size_alloc]; omega) h4.bel.size
  have lw3 : w.heap.size < u3.heap.size := by omega
  have l9 : u2.heap.size < u3.heap.size := blk_lt Z9.out
  clear C2 P2 MD h4 k4 k4a k4b k4c h5 k5a k5b h6 m3 gb t0 t1 t2 t3 t4 hgx hgu hgf
  obtain ⟨r3, hr3⟩ : ∃ r3, r3 = walkW Has8 M2 rt ad gx gu gf := ⟨_, rfl⟩
  have C3 : Calls Tryd.prog 11 #[.pointer (some ⟨rb, 0, none⟩), .int .i64 rt, .int .u64 ad, .agg #[.bool gx, .bool gu, .bool gf]] (((u3.alloc (.cells #[.int .i64 fr1, .bool pw1, .bool pu1, .bool px1, .bool g1, .bool l1, .bool d1] 40)).alloc (.cells #[.int .u64 fa2, .int .i64 fc1] 42)).alloc (.cells #[.bool gx, .bool gu, .bool gf] 34)) fun e w' => e = .returned r3.val ∧ Play ((w.alloc (.cells #[.int .i64 rt, .int .u64 ad, .bool x, .bool u, .bool f] 36)).alloc (.cells #[.bool mx0, .bool mx1, .bool mx2] 34)) w' K5 S rb 8 [(7, 8)] g 1 mb xb r3.M M0 104 320 ∧ Kept K5 (((u3.alloc (.cells #[.int .i64 fr1, .bool pw1, .bool pu1, .bool px1, .bool g1, .bool l1, .bool d1] 40)).alloc (.cells #[.int .u64 fa2, .int .i64 fc1] 42)).alloc (.cells #[.bool gx, .bool gu, .bool gf] 34)) w' := by
    rw [hr3]; exact walk_play P3.out T1.out (by have := MX.out; omega) rt ad hb1.1 hb1.2 gx gu gf
  have OUT : (er1 ≠ 0 → r3.er = er1) ∧ (er1 = 0 → mayV pw1 pu1 px1 x u f = true ∧ ((r3.er = 9 ∧ mayV pw1 pu1 px1 gx gu gf = false) ∨ (r3.er = 0 ∧ r3.fr = fr1 ∧ r3.pw = pw1 ∧ r3.pu = pu1 ∧ r3.px = px1 ∧ r3.l = l1))) := by
    have gr := greater HM.out rt ad x u f mx0 mx1 mx2
    have sm := sim_walk HL2.out Has8 rt (a := ad) (b := ad) rfl hb1.1 hb1.2 hb1.1 hb1.2 gx gu gf
    rw [← hr3] at sm
    rw [← HG.out.1, ← HG.out.2.1, ← HG.out.2.2, ← H1.out] at gr
    simp only at gr
    obtain ⟨g1', g2'⟩ := gr
    refine ⟨fun hn => sm.er.trans (g1' hn), fun h0 => ⟨(g2' h0).1, ?_⟩⟩
    rcases (g2' h0).2 with ⟨a1, a2⟩ | ⟨a1, a2, a3, a4, a5, a6⟩
    · exact Or.inl ⟨sm.er.trans a1, a2⟩
    · exact Or.inr ⟨sm.er.trans a1, sm.fr.trans a2, sm.pw.trans a3, sm.pu.trans a4, sm.px.trans a5, sm.l.trans a6⟩
  clear hr3
  obtain ⟨er3, fa3, fc3, fr3, pw3, pu3, px3, g3, l3, d3, M3⟩ := r3
  simp only at OUT
  have HO : Hid _ := OUT
  have C3 : Hid (Calls Tryd.prog 11 #[.pointer (some ⟨rb, 0, none⟩), .int .i64 rt, .int .u64 ad, .agg #[.bool gx, .bool gu, .bool gf]] (((u3.alloc (.cells #[.int .i64 fr1, .bool pw1, .bool pu1, .bool px1, .bool g1, .bool l1, .bool d1] 40)).alloc (.cells #[.int .u64 fa2, .int .i64 fc1] 42)).alloc (.cells #[.bool gx, .bool gu, .bool gf] 34)) fun e w' => e = .returned (.tuple #[.agg #[.int .i64 fr3, .bool pw3, .bool pu3, .bool px3, .bool g3, .bool l3, .bool d3], .agg #[.int .u64 fa3, .int .i64 fc3], .int .i64 er3]) ∧ Play ((w.alloc (.cells #[.int .i64 rt, .int .u64 ad, .bool x, .bool u, .bool f] 36)).alloc (.cells #[.bool mx0, .bool mx1, .bool mx2] 34)) w' K5 S rb 8 [(7, 8)] g 1 mb xb M3 M0 104 320 ∧ Kept K5 (((u3.alloc (.cells #[.int .i64 fr1, .bool pw1, .bool pu1, .bool px1, .bool g1, .bool l1, .bool d1] 40)).alloc (.cells #[.int .u64 fa2, .int .i64 fc1] 42)).alloc (.cells #[.bool gx, .bool gu, .bool gf] 34)) w') := C3
  clear OUT H1 HM HL2 hM2 P3 KK
  have NF : ∀ W : World, (binOp .neq 40 (.agg #[.int .i64 fr1, .bool pw1, .bool pu1, .bool px1, .bool g1, .bool l1, .bool d1]) (.agg #[.int .i64 fr1, .bool pw1, .bool pu1, .bool px1, .bool g1, .bool l1, .bool d1])).run Tryd.prog W = .ok (.bool false) W := fun W => (neFd ⟨fr1, pw1, pu1, px1, g1, l1, d1⟩ ⟨fr1, pw1, pu1, px1, g1, l1, d1⟩ W).trans (by simp)
  have n0 : (er1 != er1) = false := by simp
  have z9_0 : u3.cell? ⟨u2.heap.size, 0, none⟩ = some (.int .i64 fr1) := Blk.cell Z9.out 0
  have z9_1 : u3.cell? ⟨u2.heap.size, 1, none⟩ = some (.bool pw1) := Blk.cell Z9.out 1
  have z9_2 : u3.cell? ⟨u2.heap.size, 2, none⟩ = some (.bool pu1) := Blk.cell Z9.out 2
  have z9_3 : u3.cell? ⟨u2.heap.size, 3, none⟩ = some (.bool px1) := Blk.cell Z9.out 3
  have z9_4 : u3.cell? ⟨u2.heap.size, 4, none⟩ = some (.bool g1) := Blk.cell Z9.out 4
  have z9_5 : u3.cell? ⟨u2.heap.size, 5, none⟩ = some (.bool l1) := Blk.cell Z9.out 5
  have z9_6 : u3.cell? ⟨u2.heap.size, 6, none⟩ = some (.bool d1) := Blk.cell Z9.out 6
  have v0 : u3.cell? ⟨w.heap.size, 0, none⟩ = some (.int .i64 rt) := Blk.cell (Blk.below SB.out BM3.out) 0
  have v1 : u3.cell? ⟨w.heap.size, 1, none⟩ = some (.int .u64 ad) := Blk.cell (Blk.below SB.out BM3.out) 1
  have v2 : u3.cell? ⟨w.heap.size, 2, none⟩ = some (.bool x) := Blk.cell (Blk.below SB.out BM3.out) 2
  have v3 : u3.cell? ⟨w.heap.size, 3, none⟩ = some (.bool u) := Blk.cell (Blk.below SB.out BM3.out) 3
  have v4 : u3.cell? ⟨w.heap.size, 4, none⟩ = some (.bool f) := Blk.cell (Blk.below SB.out BM3.out) 4
  have vm0 : u3.cell? ⟨w.heap.size + 1, 0, none⟩ = some (.bool mx0) := Blk.cell (Blk.below MB.out BM3.out) 0
  have vm1 : u3.cell? ⟨w.heap.size + 1, 1, none⟩ = some (.bool mx1) := Blk.cell (Blk.below MB.out BM3.out) 1
  have vm2 : u3.cell? ⟨w.heap.size + 1, 2, none⟩ = some (.bool mx2) := Blk.cell (Blk.below MB.out BM3.out) 2
  go_upto_region 8 with fail
  go_cut [15] (fun vv W => vv = .pointer (some ⟨u3.heap.size + 1 + 1, 0, none⟩) ∧ W = (((u3.alloc (.cells #[.int .i64 fr1, .bool pw1, .bool pu1, .bool px1, .bool g1, .bool l1, .bool d1] 40)).alloc (.cells #[.int .u64 fa2, .int .i64 fc1] 42)).alloc (.cells #[.bool gx, .bool gu, .bool gf] 34)))
  case first =>
    obtain ⟨e1, e2, e3⟩ := HG.out
    clear C3 HO AW Z9v GB BM
    cases x <;> cases u <;> cases f <;> (simp only [Bool.true_or, Bool.false_or] at e1 e2 e3; subst e1 e2 e3; go_wp2_with fail; go_meet; exact ⟨rfl, rfl⟩)
  case rest =>
    obtain ⟨rfl, hwc⟩ := hcut
    subst hwc
    clear z9_0 z9_1 z9_2 z9_3 z9_4 z9_5 z9_6 NF n0 BM3 vm0 vm1 vm2 v0 v1 v2 v3 v4 Z9
    generalize (((u3.alloc (.cells #[.int .i64 fr1, .bool pw1, .bool pu1, .bool px1, .bool g1, .bool l1, .bool d1] 40)).alloc (.cells #[.int .u64 fa2, .int .i64 fc1] 42)).alloc (.cells #[.bool gx, .bool gu, .bool gf] 34)) = wv at C3 GB Z9v BM ⊢
    have v0 : wv.cell? ⟨w.heap.size, 0, none⟩ = some (.int .i64 rt) := Blk.cell (Blk.below SB.out BM.out) 0
    have v1 : wv.cell? ⟨w.heap.size, 1, none⟩ = some (.int .u64 ad) := Blk.cell (Blk.below SB.out BM.out) 1
    have v2 : wv.cell? ⟨w.heap.size, 2, none⟩ = some (.bool x) := Blk.cell (Blk.below SB.out BM.out) 2
    have v3 : wv.cell? ⟨w.heap.size, 3, none⟩ = some (.bool u) := Blk.cell (Blk.below SB.out BM.out) 3
    have v4 : wv.cell? ⟨w.heap.size, 4, none⟩ = some (.bool f) := Blk.cell (Blk.below SB.out BM.out) 4
    have gg0 : wv.cell? ⟨u3.heap.size + 1 + 1, 0, none⟩ = some (.bool gx) := Blk.cell GB.out 0
    have gg1 : wv.cell? ⟨u3.heap.size + 1 + 1, 1, none⟩ = some (.bool gu) := Blk.cell GB.out 1
    have gg2 : wv.cell? ⟨u3.heap.size + 1 + 1, 2, none⟩ = some (.bool gf) := Blk.cell GB.out 2
    go_wp2_with fail
    refine C3.out.mono ?_
    rintro e u4 ⟨rfl, h7, k7⟩
    have BU : Hid (Below w.heap.size w ((u4.alloc (.cells #[.int .i64 fr3, .bool pw3, .bool pu3, .bool px3, .bool g3, .bool l3, .bool d3] 40)).alloc (.cells #[.int .u64 fa3, .int .i64 fc3] 42))) := below_new (below_new (below_next BW.out h7.bel) _) _
    have ZG : Hid (Blk ((u4.alloc (.cells #[.int .i64 fr3, .bool pw3, .bool pu3, .bool px3, .bool g3, .bool l3, .bool d3] 40)).alloc (.cells #[.int .u64 fa3, .int .i64 fc3] 42)) (u3.heap.size + 1 + 1) [.bool gx, .bool gu, .bool gf] 34) := Blk.below (Blk.kept GB.out k7 KG.out) (Go.Joins.below_alloc2 _ _ _)
    have Z9w : Hid (Blk ((u4.alloc (.cells #[.int .i64 fr3, .bool pw3, .bool pu3, .bool px3, .bool g3, .bool l3, .bool d3] 40)).alloc (.cells #[.int .u64 fa3, .int .i64 fc3] 42)) u2.heap.size [.int .i64 fr1, .bool pw1, .bool pu1, .bool px1, .bool g1, .bool l1, .bool d1] 40) := Blk.below (Blk.kept Z9v.out k7 K9.out) (Go.Joins.below_alloc2 _ _ _)
    have ZS : Hid (Blk ((u4.alloc (.cells #[.int .i64 fr3, .bool pw3, .bool pu3, .bool px3, .bool g3, .bool l3, .bool d3] 40)).alloc (.cells #[.int .u64 fa3, .int .i64 fc3] 42)) w.heap.size [.int .i64 rt, .int .u64 ad, .bool x, .bool u, .bool f] 36) := Blk.below (Blk.below SB.out h7.bel) (Go.Joins.below_alloc2 _ _ _)
    have Z16 : Hid (Blk ((u4.alloc (.cells #[.int .i64 fr3, .bool pw3, .bool pu3, .bool px3, .bool g3, .bool l3, .bool d3] 40)).alloc (.cells #[.int .u64 fa3, .int .i64 fc3] 42)) u4.heap.size [.int .i64 fr3, .bool pw3, .bool pu3, .bool px3, .bool g3, .bool l3, .bool d3] 40) := (made_2 u4 [.int .i64 fr3, .bool pw3, .bool pu3, .bool px3, .bool g3, .bool l3, .bool d3] [.int .u64 fa3, .int .i64 fc3] 40 42).1
    clear C3 h7 k7 GB Z9v KG K9 SB MB BM BW T1 v0 v1 v2 v3 v4 gg0 gg1 gg2
    by_cases e0 : er1 = 0
    rotate_left
    · obtain ⟨z1, z2, z3, z4, z5, z6, z7⟩ := HN.out e0
      have e3 := HO.out.1 e0
      subst z1 z2 z3 z4 z5 z6 z7 e3
      have b0 : (er3 != 0) = true := by simpa using e0
      have b1 : (er3 == er3) = true := by simp
      have EF : ∀ W : World, (binOp .eql 40 (.agg #[.int .i64 0, .bool false, .bool false, .bool false, .bool false, .bool false, .bool false]) (.agg #[.int .i64 0, .bool false, .bool false, .bool false, .bool false, .bool false, .bool false])).run Tryd.prog W = .ok (.bool true) W := fun W => (eqFd ⟨0, false, false, false, false, false, false⟩ ⟨0, false, false, false, false, false, false⟩ W).trans (by simp)
      clear HO HN e0
      go_wp2_with fail
      refine (AW.out _ BU.out).mono ?_
      rintro e u5 ⟨rfl, hb⟩
      have B5 : Hid (Below w.heap.size w u5) := below_next BU.out hb
      have Y9 := Blk.below Z9w.out hb
      have y90 : u5.cell? ⟨u2.heap.size, 0, none⟩ = some (.int .i64 0) := Blk.cell Y9 0
      have y91 : u5.cell? ⟨u2.heap.size, 1, none⟩ = some (.bool false) := Blk.cell Y9 1
      have y92 : u5.cell? ⟨u2.heap.size, 2, none⟩ = some (.bool false) := Blk.cell Y9 2
      have y93 : u5.cell? ⟨u2.heap.size, 3, none⟩ = some (.bool false) := Blk.cell Y9 3
      have y94 : u5.cell? ⟨u2.heap.size, 4, none⟩ = some (.bool false) := Blk.cell Y9 4
      have y95 : u5.cell? ⟨u2.heap.size, 5, none⟩ = some (.bool false) := Blk.cell Y9 5
      have y96 : u5.cell? ⟨u2.heap.size, 6, none⟩ = some (.bool false) := Blk.cell Y9 6
      have ly9 : u2.heap.size < u5.heap.size := blk_lt Y9
      clear Y9
      clear hb BU Z9w ZG ZS Z16
      go_wp2_with fail
      go_ret
      exact ⟨rfl, B5.out⟩
    subst e0
    obtain ⟨may1, rest3⟩ := HO.out.2 rfl
    clear HO HN
    rcases rest3 with ⟨e3, may3⟩ | ⟨e3, q1, q2, q3, q4, q5⟩
    · subst e3
      have CM : Hid (∀ W : World, Calls Tryd.prog 14 #[.agg #[.bool pw1, .bool pu1, .bool px1], .agg #[.bool gx, .bool gu, .bool gf]] W fun e w' => e = .returned (.bool false) ∧ Below W.heap.size W w') := fun W => by rw [← may3]; exact may_any pw1 pu1 px1 gx gu gf W
      clear may1 may3
      go_wp2_with fail
      refine (AW.out _ BU.out).mono ?_
      rintro e u5 ⟨rfl, hb⟩
      have B5 : Hid (Below w.heap.size w u5) := below_next BU.out hb
      have Y9 := Blk.below Z9w.out hb
      have y90 : u5.cell? ⟨u2.heap.size, 0, none⟩ = some (.int .i64 fr1) := Blk.cell Y9 0
      have y91 : u5.cell? ⟨u2.heap.size, 1, none⟩ = some (.bool pw1) := Blk.cell Y9 1
      have y92 : u5.cell? ⟨u2.heap.size, 2, none⟩ = some (.bool pu1) := Blk.cell Y9 2
      have y93 : u5.cell? ⟨u2.heap.size, 3, none⟩ = some (.bool px1) := Blk.cell Y9 3
      have y94 : u5.cell? ⟨u2.heap.size, 4, none⟩ = some (.bool g1) := Blk.cell Y9 4
      have y95 : u5.cell? ⟨u2.heap.size, 5, none⟩ = some (.bool l1) := Blk.cell Y9 5
      have y96 : u5.cell? ⟨u2.heap.size, 6, none⟩ = some (.bool d1) := Blk.cell Y9 6
      have ly9 : u2.heap.size < u5.heap.size := blk_lt Y9
      clear Y9
      have Yg := Blk.below ZG.out hb
      have yg0 : u5.cell? ⟨u3.heap.size + 1 + 1, 0, none⟩ = some (.bool gx) := Blk.cell Yg 0
      have yg1 : u5.cell? ⟨u3.heap.size + 1 + 1, 1, none⟩ = some (.bool gu) := Blk.cell Yg 1
      have yg2 : u5.cell? ⟨u3.heap.size + 1 + 1, 2, none⟩ = some (.bool gf) := Blk.cell Yg 2
      have lyg : u3.heap.size + 1 + 1 < u5.heap.size := blk_lt Yg
      clear Yg
      clear hb BU Z9w ZG ZS Z16
      go_wp2_with fail
      refine (CM.out _).mono ?_
      rintro e u6 ⟨rfl, hb⟩
      have B6 : Hid (Below w.heap.size w u6) := below_next B5.out hb
      clear hb
      go_wp2_with fail
      go_ret
      exact ⟨rfl, B6.out⟩
    subst e3 q1 q2 q3 q4 q5
    have CM : Hid (∀ W : World, Calls Tryd.prog 14 #[.agg #[.bool pw3, .bool pu3, .bool px3], .agg #[.bool x, .bool u, .bool f]] W fun e w' => e = .returned (.bool true) ∧ Below W.heap.size W w') := fun W => by rw [← may1]; exact may_any pw3 pu3 px3 x u f W
    have EP : ∀ W : World, (binOp .eql 38 (.agg #[.bool pw3, .bool pu3, .bool px3]) (.agg #[.bool pw3, .bool pu3, .bool px3])).run Tryd.prog W = .ok (.bool true) W := fun W => (eqPerm pw3 pu3 px3 pw3 pu3 px3 W).trans (by simp)
    have b1 : (fr3 == fr3) = true := by simp
    have b2 : (l3 == l3) = true := by simp
    clear may1
    go_wp2_with fail
    refine (AW.out _ BU.out).mono ?_
    rintro e u5 ⟨rfl, hb⟩
    have B5 : Hid (Below w.heap.size w u5) := below_next BU.out hb
    have Y9 := Blk.below Z9w.out hb
    have y90 : u5.cell? ⟨u2.heap.size, 0, none⟩ = some (.int .i64 fr3) := Blk.cell Y9 0
    have y91 : u5.cell? ⟨u2.heap.size, 1, none⟩ = some (.bool pw3) := Blk.cell Y9 1
    have y92 : u5.cell? ⟨u2.heap.size, 2, none⟩ = some (.bool pu3) := Blk.cell Y9 2
    have y93 : u5.cell? ⟨u2.heap.size, 3, none⟩ = some (.bool px3) := Blk.cell Y9 3
    have y94 : u5.cell? ⟨u2.heap.size, 4, none⟩ = some (.bool g1) := Blk.cell Y9 4
    have y95 : u5.cell? ⟨u2.heap.size, 5, none⟩ = some (.bool l3) := Blk.cell Y9 5
    have y96 : u5.cell? ⟨u2.heap.size, 6, none⟩ = some (.bool d1) := Blk.cell Y9 6
    have ly9 : u2.heap.size < u5.heap.size := blk_lt Y9
    clear Y9
    have Yk := Blk.below Z16.out hb
    have yk0 : u5.cell? ⟨u4.heap.size, 0, none⟩ = some (.int .i64 fr3) := Blk.cell Yk 0
    have yk1 : u5.cell? ⟨u4.heap.size, 1, none⟩ = some (.bool pw3) := Blk.cell Yk 1
    have yk2 : u5.cell? ⟨u4.heap.size, 2, none⟩ = some (.bool pu3) := Blk.cell Yk 2
    have yk3 : u5.cell? ⟨u4.heap.size, 3, none⟩ = some (.bool px3) := Blk.cell Yk 3
    have yk4 : u5.cell? ⟨u4.heap.size, 4, none⟩ = some (.bool g3) := Blk.cell Yk 4
    have yk5 : u5.cell? ⟨u4.heap.size, 5, none⟩ = some (.bool l3) := Blk.cell Yk 5
    have yk6 : u5.cell? ⟨u4.heap.size, 6, none⟩ = some (.bool d3) := Blk.cell Yk 6
    have lyk : u4.heap.size < u5.heap.size := blk_lt Yk
    clear Yk
    have Ys := Blk.below ZS.out hb
    have ys0 : u5.cell? ⟨w.heap.size, 0, none⟩ = some (.int .i64 rt) := Blk.cell Ys 0
    have ys1 : u5.cell? ⟨w.heap.size, 1, none⟩ = some (.int .u64 ad) := Blk.cell Ys 1
    have ys2 : u5.cell? ⟨w.heap.size, 2, none⟩ = some (.bool x) := Blk.cell Ys 2
    have ys3 : u5.cell? ⟨w.heap.size, 3, none⟩ = some (.bool u) := Blk.cell Ys 3
    have ys4 : u5.cell? ⟨w.heap.size, 4, none⟩ = some (.bool f) := Blk.cell Ys 4
    have lys : w.heap.size < u5.heap.size := blk_lt Ys
    clear Ys
    clear hb BU Z9w ZG ZS Z16
    go_wp2_with fail
    refine (CM.out _).mono ?_
    rintro e u6 ⟨rfl, hb⟩
    have B6 : Hid (Below w.heap.size w u6) := below_next B5.out hb
    clear hb
    go_wp2_with fail
    go_ret
    exact ⟨rfl, B6.out⟩

set_option maxRecDepth 100000 in
theorem lifted (os : Os) (started : os.Started) (H : Type) (enc : TypeId × Value → H) :
    ReturnsInHanded {} Tryd.checked os 5 .any (fun w args => (Rows.walkAgainSpec.pre enc Tryd.prog Tryd.f5 [] false w args ∧ laidMetH Tryd.prog laidL w) ∧ sizedMet enc Tryd.prog Tryd.f5 (OpenSpec.ofChange Rows.walkAgainSpec) false w args)
      (Rows.walkAgainSpec.post enc Tryd.prog Tryd.f5 false true false false) := by
  refine returnsInHanded_of_change_and (C := Tryd.checked) (X := fun w _ => laidMetH Tryd.prog laidL w) (fun _ _ _ hh h => h.of_heap hh) own started (by kernel_rfl) Tryd.func5
    (ChangeSpec.witness_shaped (enc := enc) (C := Tryd.checked) (os := os) (X := fun w _ => laidMetH Tryd.prog laidL w) false (World.doorLaid Tryd.prog 400 os) #[.slice none 0 0, .agg #[.int .i64 0, .int .u64 0, .bool false, .bool false, .bool false], .agg #[.bool false, .bool false, .bool false]] 8 rfl (World.shaped_of_RefB (by kernel_rfl) (by kernel_rfl)) (by kernel_rfl) (by kernel_rfl) (by kernel_rfl) (door_met os _)) ?_
  intro W base args ds gs before hval0 hW _ _ hL _
  have hval : ∀ (j : Nat) t v, Tryd.f5.params[j]? = some t → args[j]? = some v → Value.okWide Tryd.prog W .any base t v := hval0
  have hW' := hW
  obtain ⟨p, q, hA0, hV, hbef, hfz, hnd⟩ := hW
  have hA : DataW.TrodAll enc Tryd.prog W 0 (fun _ => true) true Tryd.f5.params.toList args.toList ds p := hA0
  have hAk := hA
  have hlt : ∀ x ∈ p, x.block < W.heap.size := fun x hx => hW'.lt x (by rw [hbef]; exact List.mem_append_left _ hx)
  rw [Tryd.params5] at hA hval
  obtain ⟨v0, vs0, d0, ds0, p0, q0, hargs, rfl, hp0, h0, r0⟩ := trodAll_cons hA
  obtain ⟨v1, vs1, d1, ds1, p1, q1, rfl, rfl, hp1, h1, r1⟩ := trodAll_cons r0
  obtain ⟨v2, vs2, d2, ds2, p2, q2, rfl, rfl, hp2, h2, r2⟩ := trodAll_cons r1
  obtain ⟨rfl, rfl, hpz⟩ := trodAll_nil r2
  obtain rfl : args = #[v0, v1, v2] := by cases args; simp_all
  obtain ⟨rfl, rfl⟩ := trodVars_none hV
  obtain ⟨p0, n0, c0, A0, rfl, m0, H0⟩ := open_puts (hval 0 22 v0 rfl rfl) h0
  obtain ⟨s1, rfl, w1⟩ := open_step (hval 1 36 v1 rfl rfl) h1
  obtain ⟨s2, rfl, _⟩ := open_ac3 (hval 2 34 v2 rfl rfl) h2
  clear hA0 hval0
  refine (walk p0 n0 c0 A0 m0 s1 w1 s2 W (of_laid hL) H0).mono fun e W' ⟨he, hg⟩ => ?_
  subst he
  exact ⟨_, rfl, ⟨_, _, _, [], p, [], hW', (trodAll_cons_mk (shut_bool Tryd.underlying4 _) trodAll_mk0), args_stay laidOut hg (by kernel_rfl) hAk hlt, rfl, hg.frame _, fun h => by cases h⟩⟩

theorem over : Rows.walkAgainRow.holds Tryd.pinned (OpenSpec.ofChange Rows.walkAgainSpec) :=
  OpenClaim.holds_of_wide 5 Tryd.f5 rfl rfl rfl rfl rfl rfl rfl ⟨rfl, rfl, rfl, rfl, rfl⟩ rfl rfl rfl rfl rfl (by kernel_rfl) Tryd.func5 (by kernel_rfl)
    (of_decide_eq_true (by kernel_rfl)) (by unfold Func.isWrapper; first | (rw [if_pos (by decide +kernel)]; kernel_rfl) | (rw [if_neg (by decide +kernel)]; exact ⟨rfl, rfl⟩))
    (fun os started H enc _ => lifted os started H enc)

theorem proved : Rows.WalkAgainCardSaid :=
  Claim7.holds_tied_plain_at .later [] [.data] true (true, "2a6e59ec9e225d64675e460dcd5b1b0b3cd5b025de7b313b17a7fe5eb85b0249") true
    over (fun _ h => by cases h) (by kernel_rfl) (fun _ h => by cases h) walkAgain_row_tie rfl ⟨rfl, rfl⟩ (by kernel_rfl) rfl
    (fun f fn hf hfn => by
      obtain rfl : f = 5 := Option.some.inj ((show Tryd.prog.funcNamed "demesne/demesnelaw04.WalkAgain" = some 5 by kernel_rfl).symm.trans hf) |>.symm
      obtain rfl : fn = Tryd.f5 := (Option.some.inj (Tryd.func5.symm.trans hfn)).symm
      exact ⟨by kernel_rfl, fun j t ht => by
        rw [Tryd.params5] at ht
        have hm : t ∈ [22, 36, 34] := by simpa using Array.mem_of_getElem? ht
        have hall : ([22, 36, 34].all fun u => !Tryd.prog.wantsStandIn u) = true := by kernel_rfl
        exact (show Tryd.prog.wantsStandIn t = false by simpa using List.all_eq_true.1 hall t hm)⟩)
    (by kernel_rfl)
#print axioms proved
end Go.Proofs.YtkbkikbcpllknaaDoor.walkAgain
