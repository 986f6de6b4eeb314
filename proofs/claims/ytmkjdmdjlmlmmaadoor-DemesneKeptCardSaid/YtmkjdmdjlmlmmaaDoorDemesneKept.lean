/- DemesneKept: translations that were walked for and kept are found as the walk said, and none is found behind the tag's end. No condition. -/
import Derived.Test.YtmkjdmdjlmlmmaaDoorRows
import Derived.Test.YtmkjdmdjlmlmmaaDoorCards
import Derived.Test.YtmkjdmdjlmlmmaaDoorTie
import Derived.ProofKit
import Derived.OpenShut
import Derived.Stop.Joined
import Derived.SevenTiedAt
import Derived.Test.YtmkjdmdjlmlmmaaDoorKA
import Derived.Deep.DeepCutAuto
import Derived.Deep.CutBlock
namespace Go.Proofs.YtmkjdmdjlmlmmaaDoor.demesneKept
open Go.ChangeShapes Go.WideShapes Go.ChangeAt Go.RowKit
set_option linter.unusedSimpArgs false
set_option linter.unusedVariables false
set_option maxRecDepth 8000
theorem page_nn (a : Int) : 0 ≤ wrap64 (IntKind.u64.wrap (a * 65536) / 268435456) := by
  have h : IntKind.u64.wrap (a * 65536) = a * 65536 % 18446744073709551616 := by simp [IntKind.wrap, IntKind.signed, IntKind.bits]
  rw [h]
  unfold wrap64
  omega

set_option maxHeartbeats 8000000 in
theorem walk (p0 : Option Addr) (n0 c0 : Nat) (A0 : Nat → Pt) (m0 : n0 ≤ maxLen) (p1 : Option Addr) (n1 c1 : Nat) (A1 : Nat → Sp) (m1 : n1 ≤ maxLen) (s2 : Pt) (w2 : (Lit.int .i64 (s2.fr)).wf = true ∧ (Lit.int .i64 (s2.at')).wf = true ∧ (Lit.int .u64 (s2.x)).wf = true ∧ True) (w : World) (ht : Tab w) (H0 : IsPuts w p0 n0 A0) (H1 : IsSteps w p1 n1 A1) :
    Calls Tryd.prog 3 #[.slice p0 n0 c0, .slice p1 n1 c1, s2.val] w fun e w' => e = .returned (.bool true) ∧ Below w.heap.size w w' := by
  obtain ⟨cf, ca, cx⟩ := s2
  have hcx := wf_u64 w2.2.2.1
  have mx : 2000 < maxLen := by decide +kernel
  have MX : Hid (2000 < maxLen) := mx
  clear mx w2
  obtain ⟨Zs, hz, hs, hzz⟩ := Tl.zero30
  have M1 : Hid (Tl.Own w ((w.alloc (.cells #[.int .i64 cf, .int .i64 ca, .int .u64 cx] 26)).alloc (.cells Zs 34)) (w.heap.size + 1) Tl.T0) := by
    have q := Tl.IsTlb.made (w.alloc (.cells #[.int .i64 cf, .int .i64 ca, .int .u64 cx] 26)) Zs hs hzz
    rw [World.size_alloc] at q
    exact ⟨q, Go.Joins.below_alloc2 _ _ _, by omega⟩
  have C1 : Hid (Blk ((w.alloc (.cells #[.int .i64 cf, .int .i64 ca, .int .u64 cx] 26)).alloc (.cells Zs 34)) w.heap.size [.int .i64 cf, .int .i64 ca, .int .u64 cx] 26) := (Blk.made w [.int .i64 cf, .int .i64 ca, .int .u64 cx] 26).below (Go.Joins.below_alloc1 _ _)
  have FA : Hid (∀ (W : World) (T : Nat → Tl.Ln) (l : Tl.Ln) (y : Nat), y < 2 → l.ok = true → Tl.IsTlb W (w.heap.size + 1) T → Calls Tryd.prog 4 #[.pointer (some ⟨w.heap.size + 1, 0, none⟩), .int .i64 y, l.val] W fun e w' => e = .returned (.int .i64 0) ∧ Tl.IsTlb w' (w.heap.size + 1) (Tl.fillT T y l) ∧ W.grownBy w' (some (w.heap.size + 1))) := fun W T l y hy hl h => by
    have lp : 0 ≤ l.p := by unfold Tl.Ln.ok at hl; simp at hl; omega
    exact Tl.fill_ok (w.heap.size + 1) T l y (l.p % 8).toNat hy hl lp (by omega) W h
  have F1 : Hid (∀ W : World, Tl.IsTlb W (w.heap.size + 1) Tl.T0 → Calls Tryd.prog 4 #[.pointer (some ⟨w.heap.size + 1, 0, none⟩), .int .i64 0, .agg #[.bool true, .int .i64 1, .int .i64 9, .int .i64 5, .bool false, .bool false, .bool false, .bool false, .bool false]] W fun e w' => e = .returned (.int .i64 0) ∧ Tl.IsTlb w' (w.heap.size + 1) (Tl.fillT Tl.T0 0 Tl.l9) ∧ W.grownBy w' (some (w.heap.size + 1))) := fun W h => FA.out W Tl.T0 Tl.l9 0 (by omega) rfl h
  have LI : Hid (∀ W : World, Tl.IsTlb W (w.heap.size + 1) (Tl.fillT Tl.T0 0 Tl.l9) → Calls Tryd.prog 5 #[.pointer (some ⟨w.heap.size + 1, 0, none⟩)] W fun e w' => (∃ p c, e = .returned (.slice p 1 c)) ∧ Below W.heap.size W w') := fun W h => (Tl.lines_any (w.heap.size + 1) _ W h).mono fun e w' ⟨v, he, ho, hb⟩ => by
    obtain ⟨p, c, rfl⟩ := Tl.own_len ho
    exact ⟨⟨p, c, he⟩, hb⟩
  have LZ : Hid (∀ (W : World) (T : Nat → Tl.Ln), NoneT T → Tl.IsTlb W (w.heap.size + 1) T → Calls Tryd.prog 5 #[.pointer (some ⟨w.heap.size + 1, 0, none⟩)] W fun e w' => (∃ p c, e = .returned (.slice p 0 c)) ∧ Below W.heap.size W w') := fun W T hN h => (Tl.lines_any (w.heap.size + 1) _ W h).mono fun e w' ⟨v, he, ho, hb⟩ => by
    obtain ⟨p, c, hv⟩ := Tl.own_len ho
    rw [hN.lines 16 (Nat.le_refl _)] at hv
    subst hv
    exact ⟨⟨p, c, he⟩, hb⟩
  have AA : Hid (∀ (W : World) (T : Nat → Tl.Ln), Tl.IsTlb W (w.heap.size + 1) T → Calls Tryd.prog 6 #[.pointer (some ⟨w.heap.size + 1, 0, none⟩), .bool false] W fun e w' => e = .returned (.tuple #[]) ∧ (∃ T', NoneT T' ∧ Tl.IsTlb w' (w.heap.size + 1) T') ∧ W.grownBy w' (some (w.heap.size + 1))) := fun W T h => (Tl.all_any (w.heap.size + 1) T false W h).mono fun e w' ⟨he, h1, h2⟩ => ⟨he, ⟨_, all_none T, h1⟩, h2⟩
  have TA : Hid (∀ (W : World) (T : Nat → Tl.Ln), TagI T → Tl.IsTlb W (w.heap.size + 1) T → Calls Tryd.prog 11 #[.pointer (some ⟨w.heap.size + 1, 0, none⟩), .int .i64 1] W fun e w' => e = .returned (.tuple #[]) ∧ (∃ T', NoneT T' ∧ Tl.IsTlb w' (w.heap.size + 1) T') ∧ W.grownBy w' (some (w.heap.size + 1))) := fun W T hI h => (Tl.tag_any (w.heap.size + 1) T 1 W h).mono fun e w' ⟨he, h1, h2⟩ => ⟨he, ⟨_, hI.gone, h1⟩, h2⟩
  have FZ : Hid (∀ (W : World) (T : Nat → Tl.Ln) (pg : Int), NoneT T → Tl.IsTlb W (w.heap.size + 1) T → Calls Tryd.prog 9 #[.pointer (some ⟨w.heap.size + 1, 0, none⟩), .int .i64 1, .int .i64 pg] W fun e w' => e = .returned (.tuple #[.agg #[.bool false, .int .i64 0, .int .i64 0, .int .i64 0, .bool false, .bool false, .bool false, .bool false, .bool false], .bool false]) ∧ Below W.heap.size W w') := fun W T pg hN h => (Tl.find_any (w.heap.size + 1) T 1 pg W h).mono fun e w' ⟨he, hb⟩ => by
    rw [hN.find 1 pg] at he; exact ⟨he, hb⟩
  have FO : Hid (∀ (W : World) (T : Nat → Tl.Ln) (pg : Int), Tl.IsTlb W (w.heap.size + 1) T → Calls Tryd.prog 9 #[.pointer (some ⟨w.heap.size + 1, 0, none⟩), .int .i64 1, .int .i64 pg] W fun e w' => e = .returned (.tuple #[(Tl.findT T 1 pg).1.val, .bool (Tl.findT T 1 pg).2]) ∧ Below W.heap.size W w') := fun W T pg h => Tl.find_any (w.heap.size + 1) T 1 pg W h
  obtain ⟨M0, hM0⟩ : ∃ M0, M0 = layM A0 (min n0 40) := ⟨_, rfl⟩
  have LY : Hid (∀ W : World, Below w.heap.size w W → Calls Tryd.prog 7 #[.slice p0 n0 c0] W fun e w' => ∃ (rb g mb xb : Nat) (K : Nat → Prop) (S : List Nat), e = .returned (.tuple #[.pointer (some ⟨rb, 0, none⟩), .agg #[.int .i64 8, .slice (some ⟨g, 0, none⟩) 1 1, .map (some mb)]]) ∧ Play W w' K S rb 8 [(7, 8)] g 1 mb xb M0 M0 80 320 ∧ (∀ s, s ∈ S → W.heap.size ≤ s) ∧ W.heap.size ≤ g ∧ W.heap.size ≤ xb) := fun W hb => by
    rw [hM0]; exact lay_ex p0 n0 c0 A0 m0 W (H0.below hb)
  have HS0 : Hid (IsSteps w p1 n1 A1) := H1
  have HT : Hid (Tab w) := ht
  have mm : (n1 : Int) ≤ 9223372036854775807 := by
    have : maxLen ≤ 9223372036854775807 := by decide +kernel
    omega
  clear hM0 H0 H1 ht hs hzz
  go_enter Tryd.func3, Tryd.ntmps3
  go_wp2_with fail
  refine (F1.out _ M1.out.1).mono ?_
  rintro e u1 ⟨rfl, h1, h2⟩
  have M2 : Hid (Tl.Own w u1 (w.heap.size + 1) (Tl.fillT Tl.T0 0 Tl.l9)) := M1.out.next h1 h2
  have C2 : Hid (Blk u1 w.heap.size [.int .i64 cf, .int .i64 ca, .int .u64 cx] 26) := (h2.block _ (blk_lt C1.out) (fun e => by have := Option.some.inj e; omega)).trans C1.out
  clear h1 h2 M1 C1 F1
  go_wp2_with fail
  refine (LI.out _ M2.out.1).mono ?_
  rintro e u2 ⟨⟨p, c, rfl⟩, hb⟩
  have M3 : Hid (Tl.Own w u2 (w.heap.size + 1) (Tl.fillT Tl.T0 0 Tl.l9)) := M2.out.grow hb
  have C3 : Hid (Blk u2 w.heap.size [.int .i64 cf, .int .i64 ca, .int .u64 cx] 26) := C2.out.below hb
  clear hb M2 C2 LI
  go_wp2_with fail
  refine (AA.out _ _ M3.out.1).mono ?_
  rintro e u3 ⟨rfl, ⟨T3, hN3, h1⟩, h2⟩
  have M4 : Hid (Tl.Own w u3 (w.heap.size + 1) T3) := M3.out.next h1 h2
  have C4 : Hid (Blk u3 w.heap.size [.int .i64 cf, .int .i64 ca, .int .u64 cx] 26) := (h2.block _ (blk_lt C3.out) (fun e => by have := Option.some.inj e; omega)).trans C3.out
  have I3 : Hid (TagI T3) := hN3.tag
  clear h1 h2 M3 C3 AA hN3
  go_wp2_with fail
  refine (LY.out _ M4.out.2.1).mono ?_
  rintro e u4 ⟨rb, g, mb, xb, K, S, rfl, h1, hS, hG, hX⟩
  have l3 : (w.heap.size + 1) < u3.heap.size := M4.out.1.2.2
  have FX : Hid ((w.heap.size + 1) ∉ S ∧ (w.heap.size + 1) ≠ mb ∧ (w.heap.size + 1) ≠ xb ∧ (w.heap.size + 1) ≠ g) := ⟨fun hx => by have := hS _ hx; omega, fun e => by have := h1.nw; omega, fun e => by omega, fun e => by omega⟩
  have K0 : Hid (KP w (u4.alloc (.cells #[.int .i64 8, .slice (some ⟨g, 0, none⟩) 1 1, .map (some mb)] 44)) S rb g mb xb (w.heap.size + 1) w.heap.size 0 M0 [.int .i64 cf, .int .i64 ca, .int .u64 cx] T3) := by
    have q : KP w u4 S rb g mb xb (w.heap.size + 1) w.heap.size 0 M0 [.int .i64 cf, .int .i64 ca, .int .u64 cx] T3 := ⟨K, M0, 80, h1.base M4.out.2.1, by omega, ⟨h1.kw _ l3, h1.kw _ (by omega)⟩, M4.out.1.below h1.bel, C4.out.below h1.bel⟩
    exact q.below (Go.Joins.below_alloc1 _ _)
  clear h1 hS hG hX l3 M4 C4 LY
  go_upto_block 0 with fail
  go_cut [10] (fun i wx => ∃ (k : Nat) (T : Nat → Tl.Ln), k ≤ 20 ∧ Hid (KP w wx S rb g mb xb (w.heap.size + 1) w.heap.size k M0 [.int .i64 cf, .int .i64 ca, .int .u64 cx] T) ∧ Hid (TagI T))
  case first =>
    go_wp2_with fail
    go_loopw [10] (fun i W => ∃ (k : Nat) (T : Nat → Tl.Ln), k ≤ n1 ∧ k ≤ 20 ∧ i = .int .i64 k ∧ Hid (KP w W S rb g mb xb (w.heap.size + 1) w.heap.size k M0 [.int .i64 cf, .int .i64 ca, .int .u64 cx] T) ∧ Hid (TagI T)) (fun i _ => 20 - (intOf i).toNat)
    case atStart => exact ⟨0, T3, by omega, by omega, rfl, K0, I3⟩
    case round =>
      clear K0 I3
      obtain ⟨k, T, hk, hk20, rfl, hp, hI⟩ := hrel
      by_cases hlt : k < n1
      rotate_left
      · have hd : decide ((k : Int) < (n1 : Int)) = false := by simp; omega
        go_wp2_with fail
        go_meet
        exact ⟨k, T, hk20, hp, hI⟩
      have hd : decide ((k : Int) < (n1 : Int)) = true := by simp; omega
      by_cases hl4 : k < 20
      rotate_left
      · have hd2 : decide ((k : Int) < 20) = false := by simp; omega
        go_wp2_with fail
        go_meet
        exact ⟨k, T, hk20, hp, hI⟩
      have hd2 : decide ((k : Int) < 20) = true := by simp; omega
      have hd0 : decide ((k : Int) < 0) = false := by simp
      obtain ⟨bq, oq, rfl, lq, y0, y1, y2, y3, y4, gx⟩ := (HS0.out.below hp.out.bel) k hlt
      have z0 : wr.cell? ⟨bq, oq + k * 5, none⟩ = some (.int .i64 (A1 k).rt) := y0
      have z1 : wr.cell? ⟨bq, oq + k * 5 + 1, none⟩ = some (.int .u64 (A1 k).ad) := y1
      have z2 : wr.cell? ⟨bq, oq + k * 5 + 2, none⟩ = some (.bool (A1 k).x) := y2
      have z3 : wr.cell? ⟨bq, oq + k * 5 + 3, none⟩ = some (.bool (A1 k).u) := y3
      have z4 : wr.cell? ⟨bq, oq + k * 5 + 4, none⟩ = some (.bool (A1 k).f) := y4
      clear y0 y1 y2 y3 y4
      generalize A1 k = st at z0 z1 z2 z3 z4 gx
      obtain ⟨rt, ad, x, u, f⟩ := st
      simp only at z0 z1 z2 z3 z4 gx
      have hb1 := wf_u64 gx
      have a0 := hb1.1
      have a1 := hb1.2
      clear gx
      obtain ⟨er, fa, fc, fr, pw, pu, px, gl, la, di, fr0, WC⟩ := hp.out.walk HT.out (by have := MX.out; omega) [.int .i64 rt, .int .u64 ad, .bool x, .bool u, .bool f] 50 0 ad hb1.1 hb1.2 x u f
      have WC' : Hid (Calls Tryd.prog 8 #[.pointer (some ⟨rb, 0, none⟩), .int .i64 0, .int .u64 ad, .agg #[.bool x, .bool u, .bool f]] (wr.alloc (.cells #[.int .i64 rt, .int .u64 ad, .bool x, .bool u, .bool f] 50)) fun e w' => e = .returned (.tuple #[.agg #[.int .i64 fr, .bool pw, .bool pu, .bool px, .bool gl, .bool la, .bool di], .agg #[.int .u64 fa, .int .i64 fc], .int .i64 er]) ∧ KP w w' S rb g mb xb (w.heap.size + 1) w.heap.size (k + 1) M0 [.int .i64 cf, .int .i64 ca, .int .u64 cx] T ∧ Blk w' wr.heap.size [.int .i64 rt, .int .u64 ad, .bool x, .bool u, .bool f] 50) := WC
      clear WC hp
      go_wp2_with fail
      refine WC'.out.mono ?_
      rintro e u5 ⟨rfl, h5, s5⟩
      have P5 : Hid (KP w u5 S rb g mb xb (w.heap.size + 1) w.heap.size (k + 1) M0 [.int .i64 cf, .int .i64 ca, .int .u64 cx] T) := h5
      have S5 : Hid (Blk u5 wr.heap.size [.int .i64 rt, .int .u64 ad, .bool x, .bool u, .bool f] 50) := s5
      have ls5 : wr.heap.size < u5.heap.size := blk_lt s5
      clear WC' h5 s5 z0 z1 z2 z3 z4
      have s0 : u5.cell? ⟨wr.heap.size, 0, none⟩ = some (.int .i64 rt) := Blk.cell S5.out 0
      have s1 : u5.cell? ⟨wr.heap.size, 1, none⟩ = some (.int .u64 ad) := Blk.cell S5.out 1
      have s2 : u5.cell? ⟨wr.heap.size, 2, none⟩ = some (.bool x) := Blk.cell S5.out 2
      have s3 : u5.cell? ⟨wr.heap.size, 3, none⟩ = some (.bool u) := Blk.cell S5.out 3
      have s4 : u5.cell? ⟨wr.heap.size, 4, none⟩ = some (.bool f) := Blk.cell S5.out 4
      go_upto_region 14 with fail
      obtain ⟨pg, hpg⟩ : ∃ pg, pg = wrap64 (IntKind.u64.wrap (ad * 65536) / 268435456) := ⟨_, rfl⟩
      have pg0 : 0 ≤ pg := by rw [hpg]; exact page_nn ad
      rw [← hpg]
      clear hpg
      have W6B : Hid (KP w ((u5.alloc (.cells #[.int .i64 fr, .bool pw, .bool pu, .bool px, .bool gl, .bool la, .bool di] 52)).alloc (.cells #[.int .u64 fa, .int .i64 fc] 54)) S rb g mb xb (w.heap.size + 1) w.heap.size (k + 1) M0 [.int .i64 cf, .int .i64 ca, .int .u64 cx] T) := P5.out.below (Go.Joins.below_alloc2 _ _ _)
      have mk := made_2 u5 [.int .i64 fr, .bool pw, .bool pu, .bool px, .bool gl, .bool la, .bool di] [.int .u64 fa, .int .i64 fc] 52 54
      have FB : Hid (Blk ((u5.alloc (.cells #[.int .i64 fr, .bool pw, .bool pu, .bool px, .bool gl, .bool la, .bool di] 52)).alloc (.cells #[.int .u64 fa, .int .i64 fc] 54)) u5.heap.size [.int .i64 fr, .bool pw, .bool pu, .bool px, .bool gl, .bool la, .bool di] 52) := mk.1
      have lt5 : (w.heap.size + 1) < u5.heap.size := P5.out.tlb.2.2
      have nr : (fr != fr) = false := by simp
      have NP : ∀ W : World, (binOp .neq 28 (.agg #[.bool pw, .bool pu, .bool px]) (.agg #[.bool pw, .bool pu, .bool px])).run Tryd.prog W = .ok (.bool false) W := fun W => (nePerm pw pu px pw pu px W).trans (by simp)
      clear mk P5 S5 s0 s1 s2 s3 s4
      by_cases e0 : er = 0
      · have hfr := fr0 e0
        clear fr0
        subst e0
        have tm : (k : Int).tmod 2 = ((k % 2 : Nat) : Int) := by rw [Int.tmod_eq_emod_of_nonneg (by omega)]; omega
        have ok1 : (Tl.Ln.mk true 1 pg fr pw pu px false false).ok = true := by unfold Tl.Ln.ok; simp [pg0, hfr]
        have FC : Hid (∀ W : World, Tl.IsTlb W (w.heap.size + 1) T → Calls Tryd.prog 4 #[.pointer (some ⟨w.heap.size + 1, 0, none⟩), .int .i64 ((k : Int).tmod 2), .agg #[.bool true, .int .i64 1, .int .i64 pg, .int .i64 fr, .bool pw, .bool pu, .bool px, .bool false, .bool false]] W fun e w' => e = .returned (.int .i64 0) ∧ Tl.IsTlb w' (w.heap.size + 1) (Tl.fillT T ((k % 2 : Nat) : Int) ⟨true, 1, pg, fr, pw, pu, px, false, false⟩) ∧ W.grownBy w' (some (w.heap.size + 1))) := fun W h => by
          rw [tm]; exact FA.out W T ⟨true, 1, pg, fr, pw, pu, px, false, false⟩ (k % 2) (by omega) ok1 h
        have FD2 : Hid (∀ W : World, Tl.IsTlb W (w.heap.size + 1) (Tl.fillT T ((k % 2 : Nat) : Int) ⟨true, 1, pg, fr, pw, pu, px, false, false⟩) → Calls Tryd.prog 9 #[.pointer (some ⟨w.heap.size + 1, 0, none⟩), .int .i64 1, .int .i64 pg] W fun e w' => e = .returned (.tuple #[.agg #[.bool true, .int .i64 1, .int .i64 pg, .int .i64 fr, .bool pw, .bool pu, .bool px, .bool false, .bool false], .bool true]) ∧ Below W.heap.size W w') := fun W h => (FO.out W _ pg h).mono fun e w' ⟨he, hb⟩ => by
          have q := find_fill T (k % 2) (by omega) ⟨true, 1, pg, fr, pw, pu, px, false, false⟩ rfl pg0
          rw [q] at he; exact ⟨he, hb⟩
        have I2 : Hid (TagI (Tl.fillT T ((k % 2 : Nat) : Int) ⟨true, 1, pg, fr, pw, pu, px, false, false⟩)) := hI.out.fill _ _ rfl rfl
        clear tm ok1 hI
        have f0 : ((u5.alloc (.cells #[.int .i64 fr, .bool pw, .bool pu, .bool px, .bool gl, .bool la, .bool di] 52)).alloc (.cells #[.int .u64 fa, .int .i64 fc] 54)).cell? ⟨u5.heap.size, 0, none⟩ = some (.int .i64 fr) := Blk.cell FB.out 0
        have f1 : ((u5.alloc (.cells #[.int .i64 fr, .bool pw, .bool pu, .bool px, .bool gl, .bool la, .bool di] 52)).alloc (.cells #[.int .u64 fa, .int .i64 fc] 54)).cell? ⟨u5.heap.size, 1, none⟩ = some (.bool pw) := Blk.cell FB.out 1
        have f2 : ((u5.alloc (.cells #[.int .i64 fr, .bool pw, .bool pu, .bool px, .bool gl, .bool la, .bool di] 52)).alloc (.cells #[.int .u64 fa, .int .i64 fc] 54)).cell? ⟨u5.heap.size, 2, none⟩ = some (.bool pu) := Blk.cell FB.out 2
        have f3 : ((u5.alloc (.cells #[.int .i64 fr, .bool pw, .bool pu, .bool px, .bool gl, .bool la, .bool di] 52)).alloc (.cells #[.int .u64 fa, .int .i64 fc] 54)).cell? ⟨u5.heap.size, 3, none⟩ = some (.bool px) := Blk.cell FB.out 3
        have f4 : ((u5.alloc (.cells #[.int .i64 fr, .bool pw, .bool pu, .bool px, .bool gl, .bool la, .bool di] 52)).alloc (.cells #[.int .u64 fa, .int .i64 fc] 54)).cell? ⟨u5.heap.size, 4, none⟩ = some (.bool gl) := Blk.cell FB.out 4
        have f5 : ((u5.alloc (.cells #[.int .i64 fr, .bool pw, .bool pu, .bool px, .bool gl, .bool la, .bool di] 52)).alloc (.cells #[.int .u64 fa, .int .i64 fc] 54)).cell? ⟨u5.heap.size, 5, none⟩ = some (.bool la) := Blk.cell FB.out 5
        have f6 : ((u5.alloc (.cells #[.int .i64 fr, .bool pw, .bool pu, .bool px, .bool gl, .bool la, .bool di] 52)).alloc (.cells #[.int .u64 fa, .int .i64 fc] 54)).cell? ⟨u5.heap.size, 6, none⟩ = some (.bool di) := Blk.cell FB.out 6
        go_wp2_with fail
        refine (FC.out _ W6B.out.tlb).mono ?_
        rintro e u6 ⟨rfl, h1, h2⟩
        have P6 : Hid (KP w u6 S rb g mb xb (w.heap.size + 1) w.heap.size (k + 1) M0 [.int .i64 cf, .int .i64 ca, .int .u64 cx] (Tl.fillT T ((k % 2 : Nat) : Int) ⟨true, 1, pg, fr, pw, pu, px, false, false⟩)) := W6B.out.next h1 h2 FX.out.1 FX.out.2.1 FX.out.2.2.1 FX.out.2.2.2 (by omega) (by omega)
        have F6 : Hid (Blk u6 u5.heap.size [.int .i64 fr, .bool pw, .bool pu, .bool px, .bool gl, .bool la, .bool di] 52) := (h2.block _ (blk_lt FB.out) (fun e => by have := Option.some.inj e; omega)).trans FB.out
        clear h1 h2 W6B FB FC f0 f1 f2 f3 f4 f5 f6
        go_wp2_with fail
        refine (FD2.out _ P6.out.tlb).mono ?_
        rintro e u7 ⟨rfl, hb⟩
        have P7 : Hid (KP w (u7.alloc (.cells #[.bool true, .int .i64 1, .int .i64 pg, .int .i64 fr, .bool pw, .bool pu, .bool px, .bool false, .bool false] 30)) S rb g mb xb (w.heap.size + 1) w.heap.size (k + 1) M0 [.int .i64 cf, .int .i64 ca, .int .u64 cx] (Tl.fillT T ((k % 2 : Nat) : Int) ⟨true, 1, pg, fr, pw, pu, px, false, false⟩)) := (P6.out.below hb).below (Go.Joins.below_alloc1 _ _)
        have F7 : Hid (Blk u7 u5.heap.size [.int .i64 fr, .bool pw, .bool pu, .bool px, .bool gl, .bool la, .bool di] 52) := F6.out.below hb
        have l7 : u5.heap.size < u7.heap.size := blk_lt F7.out
        clear hb P6 F6 FD2
        have f0 : u7.cell? ⟨u5.heap.size, 0, none⟩ = some (.int .i64 fr) := Blk.cell F7.out 0
        have f1 : u7.cell? ⟨u5.heap.size, 1, none⟩ = some (.bool pw) := Blk.cell F7.out 1
        have f2 : u7.cell? ⟨u5.heap.size, 2, none⟩ = some (.bool pu) := Blk.cell F7.out 2
        have f3 : u7.cell? ⟨u5.heap.size, 3, none⟩ = some (.bool px) := Blk.cell F7.out 3
        have f4 : u7.cell? ⟨u5.heap.size, 4, none⟩ = some (.bool gl) := Blk.cell F7.out 4
        have f5 : u7.cell? ⟨u5.heap.size, 5, none⟩ = some (.bool la) := Blk.cell F7.out 5
        have f6 : u7.cell? ⟨u5.heap.size, 6, none⟩ = some (.bool di) := Blk.cell F7.out 6
        go_wp2_with fail
        go_roundw
        case rel => exact ⟨k + 1, _, by omega, by omega, by go_num, P7, I2⟩
        case measure => simp [intOf]; omega
      have e0' : (er == 0) = false := by simp [e0]
      have FD2 : Hid (∀ W : World, Tl.IsTlb W (w.heap.size + 1) T → Calls Tryd.prog 9 #[.pointer (some ⟨w.heap.size + 1, 0, none⟩), .int .i64 1, .int .i64 pg] W fun e w' => e = .returned (.tuple #[(Tl.findT T 1 pg).1.val, .bool (Tl.findT T 1 pg).2]) ∧ Below W.heap.size W w') := fun W h => FO.out W T pg h
      generalize Tl.findT T 1 pg = fnd at FD2
      obtain ⟨⟨v0, v1, v2, v3, v4, v5, v6, v7, v8⟩, ok⟩ := fnd
      have FD3 : Hid (∀ W : World, Tl.IsTlb W (w.heap.size + 1) T → Calls Tryd.prog 9 #[.pointer (some ⟨w.heap.size + 1, 0, none⟩), .int .i64 1, .int .i64 pg] W fun e w' => e = .returned (.tuple #[.agg #[.bool v0, .int .i64 v1, .int .i64 v2, .int .i64 v3, .bool v4, .bool v5, .bool v6, .bool v7, .bool v8], .bool ok]) ∧ Below W.heap.size W w') := FD2
      clear FD2 fr0 FB
      go_wp2_with fail
      refine (FD3.out _ W6B.out.tlb).mono ?_
      rintro e u7 ⟨rfl, hb⟩
      have P7 : Hid (KP w (u7.alloc (.cells #[.bool v0, .int .i64 v1, .int .i64 v2, .int .i64 v3, .bool v4, .bool v5, .bool v6, .bool v7, .bool v8] 30)) S rb g mb xb (w.heap.size + 1) w.heap.size (k + 1) M0 [.int .i64 cf, .int .i64 ca, .int .u64 cx] T) := (W6B.out.below hb).below (Go.Joins.below_alloc1 _ _)
      clear hb W6B FD3
      cases ok
      · go_wp2_with fail
        go_roundw
        case rel => exact ⟨k + 1, _, by omega, by omega, by go_num, P7, hI⟩
        case measure => simp [intOf]; omega
      · go_wp2_with fail
        go_roundw
        case rel => exact ⟨k + 1, _, by omega, by omega, by go_num, P7, hI⟩
        case measure => simp [intOf]; omega
  clear K0 I3
  obtain ⟨k, T, hk, hp, hI⟩ := hcut
  have lc : w.heap.size < wc.heap.size := Nat.lt_of_lt_of_le (by omega) (Nat.le_of_lt hp.out.tlb.2.2)
  obtain ⟨hb0, hc0⟩ : Below w.heap.size w wc ∧ Blk wc w.heap.size [.int .i64 cf, .int .i64 ca, .int .u64 cx] 26 := by
    obtain ⟨K, M, n, h1, _, _, _, h2⟩ := hp.out
    exact ⟨h1.bel, h2⟩
  have CB : Hid (Blk wc w.heap.size [.int .i64 cf, .int .i64 ca, .int .u64 cx] 26) := hc0
  have BB : Hid (Below w.heap.size w wc) := hb0
  clear hb0 hc0
  have c0 : wc.cell? ⟨w.heap.size, 0, none⟩ = some (.int .i64 cf) := Blk.cell CB.out 0
  have c1 : wc.cell? ⟨w.heap.size, 1, none⟩ = some (.int .i64 ca) := Blk.cell CB.out 1
  have c2 : wc.cell? ⟨w.heap.size, 2, none⟩ = some (.int .u64 cx) := Blk.cell CB.out 2
  skip
  by_cases g0 : cf < 0
  · have d0 : decide (cf < 0) = true := decide_eq_true g0
    go_wp2_with fail
    go_ret
    exact ⟨rfl, BB.out⟩
  have d0 : decide (cf < 0) = false := decide_eq_false g0
  by_cases g1 : 6 < cf
  · have d1 : decide (6 < cf) = true := decide_eq_true g1
    go_wp2_with fail
    go_ret
    exact ⟨rfl, BB.out⟩
  have d1 : decide (6 < cf) = false := decide_eq_false g1
  by_cases g2 : ca < 0
  · have d2 : decide (ca < 0) = true := decide_eq_true g2
    go_wp2_with fail
    go_ret
    exact ⟨rfl, BB.out⟩
  have d2 : decide (ca < 0) = false := decide_eq_false g2
  by_cases g3 : 511 < ca
  · have d3 : decide (511 < ca) = true := decide_eq_true g3
    go_wp2_with fail
    go_ret
    exact ⟨rfl, BB.out⟩
  have d3 : decide (511 < ca) = false := decide_eq_false g3
  have q1 : IntKind.u64.wrap cf = cf := by rw [IntKind.wrap_u64]; omega
  have q2 : IntKind.u64.wrap (cf * 4096) = cf * 4096 := by rw [IntKind.wrap_u64]; omega
  have q3 : IntKind.i64.wrap (8 * ca) = 8 * ca := by rw [IntKind.wrap_i64]; omega
  have q3' : wrap64 (8 * ca) = 8 * ca := by simp only [wrap64]; omega
  have q4 : IntKind.u64.wrap (8 * ca) = 8 * ca := by rw [IntKind.wrap_u64]; omega
  have q5 : IntKind.u64.wrap (cf * 4096 + 8 * ca) = cf * 4096 + 8 * ca := by rw [IntKind.wrap_u64]; omega
  have SK : Hid (Calls Tryd.prog 10 #[.pointer (some ⟨rb, 0, none⟩), .int .u64 (cf * 4096 + 8 * ca), .int .i64 8, .int .u64 cx] wc fun e w' => e = .returned (.int .i64 0) ∧ KP w w' S rb g mb xb (w.heap.size + 1) w.heap.size (k + 1) M0 [.int .i64 cf, .int .i64 ca, .int .u64 cx] T) := hp.out.store (by have := MX.out; omega) cf ca cx (by omega) (by omega) hcx
  clear hp CB
  go_wp2_with fail
  refine SK.out.mono ?_
  rintro e u6 ⟨rfl, h6⟩
  have P6 : Hid (KP w u6 S rb g mb xb (w.heap.size + 1) w.heap.size (k + 1) M0 [.int .i64 cf, .int .i64 ca, .int .u64 cx] T) := h6
  clear h6 SK c0 c1 c2
  go_wp2_with fail
  refine (TA.out _ _ hI.out P6.out.tlb).mono ?_
  rintro e u7 ⟨rfl, ⟨T7, hN7, h1⟩, h2⟩
  have N7 : Hid (NoneT T7) := hN7
  have O7 : Hid (Tl.Own w u7 (w.heap.size + 1) T7) := ⟨h1, (P6.out.next h1 h2 FX.out.1 FX.out.2.1 FX.out.2.2.1 FX.out.2.2.2 (by omega) (by omega)).bel, by omega⟩
  clear h1 h2 hN7 P6 hI TA q1 q2 q3 q3' q4 q5 BB
  go_wp2_with fail
  go_loopw [18] (fun i W => ∃ (j : Nat), j ≤ n1 ∧ j ≤ 20 ∧ i = .int .i64 j ∧ Hid (Tl.Own w W (w.heap.size + 1) T7)) (fun i _ => 20 - (intOf i).toNat)
  case atStart => exact ⟨0, by omega, by omega, rfl, O7⟩
  case round =>
    clear O7
    obtain ⟨j, hj, hj20, rfl, hp⟩ := hrel
    by_cases hlt : j < n1
    rotate_left
    · have hd : decide ((j : Int) < (n1 : Int)) = false := by simp; omega
      go_wp2_with fail
      refine (LZ.out _ _ N7.out hp.out.1).mono ?_
      rintro e u8 ⟨⟨p, c, rfl⟩, hb⟩
      have B8 : Hid (Below w.heap.size w u8) := (hp.out.grow hb).2.1
      clear hb
      go_wp2_with fail
      go_ret
      exact ⟨rfl, B8.out⟩
    have hd : decide ((j : Int) < (n1 : Int)) = true := by simp; omega
    by_cases hl4 : j < 20
    rotate_left
    · have hd2 : decide ((j : Int) < 20) = false := by simp; omega
      go_wp2_with fail
      refine (LZ.out _ _ N7.out hp.out.1).mono ?_
      rintro e u8 ⟨⟨p, c, rfl⟩, hb⟩
      have B8 : Hid (Below w.heap.size w u8) := (hp.out.grow hb).2.1
      clear hb
      go_wp2_with fail
      go_ret
      exact ⟨rfl, B8.out⟩
    have hd2 : decide ((j : Int) < 20) = true := by simp; omega
    have hd0 : decide ((j : Int) < 0) = false := by simp
    obtain ⟨bq, oq, rfl, lq, _, y1, _, _, _, gx⟩ := (HS0.out.below hp.out.2.1) j hlt
    have z1 : wr.cell? ⟨bq, oq + j * 5 + 1, none⟩ = some (.int .u64 (A1 j).ad) := y1
    clear y1
    generalize A1 j = st at z1 gx
    obtain ⟨rt, ad, x, u, f⟩ := st
    simp only at z1 gx
    have hb1 := wf_u64 gx
    have a0 := hb1.1
    have a1 := hb1.2
    clear gx
    have FC : Hid (Calls Tryd.prog 9 #[.pointer (some ⟨w.heap.size + 1, 0, none⟩), .int .i64 1, .int .i64 (wrap64 (IntKind.u64.wrap (ad * 65536) / 268435456))] wr fun e w' => e = .returned (.tuple #[.agg #[.bool false, .int .i64 0, .int .i64 0, .int .i64 0, .bool false, .bool false, .bool false, .bool false, .bool false], .bool false]) ∧ Below wr.heap.size wr w') := FZ.out wr T7 _ N7.out hp.out.1
    go_wp2_with fail
    refine FC.out.mono ?_
    rintro e u8 ⟨rfl, hb⟩
    have O8 : Hid (Tl.Own w (u8.alloc (.cells #[.bool false, .int .i64 0, .int .i64 0, .int .i64 0, .bool false, .bool false, .bool false, .bool false, .bool false] 30)) (w.heap.size + 1) T7) := (hp.out.grow hb).grow (Go.Joins.below_alloc1 _ _)
    clear hb FC hp
    go_wp2_with fail
    go_roundw
    case rel => exact ⟨j + 1, by omega, by omega, by go_num, O8⟩
    case measure => simp [intOf]; omega

set_option maxRecDepth 100000 in
theorem lifted (os : Os) (started : os.Started) (H : Type) (enc : TypeId × Value → H) :
    ReturnsInHanded {} Tryd.checked os 3 .any (fun w args => (Rows.demesneKeptSpec.pre enc Tryd.prog Tryd.f3 [] false w args ∧ laidMetH Tryd.prog laidL w) ∧ sizedMet enc Tryd.prog Tryd.f3 (OpenSpec.ofChange Rows.demesneKeptSpec) false w args)
      (Rows.demesneKeptSpec.post enc Tryd.prog Tryd.f3 false true false false) := by
  refine returnsInHanded_of_change_and (C := Tryd.checked) (X := fun w _ => laidMetH Tryd.prog laidL w) (fun _ _ _ hh h => h.of_heap hh) own started (by kernel_rfl) Tryd.func3
    (ChangeSpec.witness_shaped (enc := enc) (C := Tryd.checked) (os := os) (X := fun w _ => laidMetH Tryd.prog laidL w) false (World.doorLaid Tryd.prog 400 os) #[.slice none 0 0, .slice none 0 0, .agg #[.int .i64 0, .int .i64 0, .int .u64 0]] 8 rfl (World.shaped_of_RefB (by kernel_rfl) (by kernel_rfl)) (by kernel_rfl) (by kernel_rfl) (by kernel_rfl) (door_met os _)) ?_
  intro W base args ds gs before hval0 hW _ _ hL _
  have hval : ∀ (j : Nat) t v, Tryd.f3.params[j]? = some t → args[j]? = some v → Value.okWide Tryd.prog W .any base t v := hval0
  have hW' := hW
  obtain ⟨p, q, hA0, hV, hbef, hfz, hnd⟩ := hW
  have hA : DataW.TrodAll enc Tryd.prog W 0 (fun _ => true) true Tryd.f3.params.toList args.toList ds p := hA0
  have hAk := hA
  have hlt : ∀ x ∈ p, x.block < W.heap.size := fun x hx => hW'.lt x (by rw [hbef]; exact List.mem_append_left _ hx)
  rw [Tryd.params3] at hA hval
  obtain ⟨v0, vs0, d0, ds0, p0, q0, hargs, rfl, hp0, h0, r0⟩ := trodAll_cons hA
  obtain ⟨v1, vs1, d1, ds1, p1, q1, rfl, rfl, hp1, h1, r1⟩ := trodAll_cons r0
  obtain ⟨v2, vs2, d2, ds2, p2, q2, rfl, rfl, hp2, h2, r2⟩ := trodAll_cons r1
  obtain ⟨rfl, rfl, hpz⟩ := trodAll_nil r2
  obtain rfl : args = #[v0, v1, v2] := by cases args; simp_all
  obtain ⟨rfl, rfl⟩ := trodVars_none hV
  obtain ⟨p0, n0, c0, A0, rfl, m0, H0⟩ := open_puts (hval 0 22 v0 rfl rfl) h0
  obtain ⟨p1, n1, c1, A1, rfl, m1, H1⟩ := open_steps (hval 1 23 v1 rfl rfl) h1
  obtain ⟨s2, rfl, w2⟩ := open_put (hval 2 26 v2 rfl rfl) h2
  clear hA0 hval0
  refine (walk p0 n0 c0 A0 m0 p1 n1 c1 A1 m1 s2 w2 W (of_laid hL) H0 H1).mono fun e W' ⟨he, hg⟩ => ?_
  subst he
  exact ⟨_, rfl, ⟨_, _, _, [], p, [], hW', (trodAll_cons_mk (shut_bool Tryd.underlying4 _) trodAll_mk0), args_stay laidOut hg (by kernel_rfl) hAk hlt, rfl, hg.frame _, fun h => by cases h⟩⟩

theorem over : Rows.demesneKeptRow.holds Tryd.pinned (OpenSpec.ofChange Rows.demesneKeptSpec) :=
  OpenClaim.holds_of_wide 3 Tryd.f3 rfl rfl rfl rfl rfl rfl rfl ⟨rfl, rfl, rfl, rfl, rfl⟩ rfl rfl rfl rfl rfl (by kernel_rfl) Tryd.func3 (by kernel_rfl)
    (of_decide_eq_true (by kernel_rfl)) (by unfold Func.isWrapper; first | (rw [if_pos (by decide +kernel)]; kernel_rfl) | (rw [if_neg (by decide +kernel)]; exact ⟨rfl, rfl⟩))
    (fun os started H enc _ => lifted os started H enc)

theorem proved : Rows.DemesneKeptCardSaid :=
  Claim7.holds_tied_plain_at .later [] [.data] true (true, "a91074681435731a6c766ce77da0918316bc3d897541bd53f664bd0acd76c49b") true
    over (fun _ h => by cases h) (by kernel_rfl) (fun _ h => by cases h) demesneKept_row_tie rfl ⟨rfl, rfl⟩ (by kernel_rfl) rfl
    (fun f fn hf hfn => by
      obtain rfl : f = 3 := Option.some.inj ((show Tryd.prog.funcNamed "demesne/demesnetop.DemesneKept" = some 3 by kernel_rfl).symm.trans hf) |>.symm
      obtain rfl : fn = Tryd.f3 := (Option.some.inj (Tryd.func3.symm.trans hfn)).symm
      exact ⟨by kernel_rfl, fun j t ht => by
        rw [Tryd.params3] at ht
        have hm : t ∈ [22, 23, 26] := by simpa using Array.mem_of_getElem? ht
        have hall : ([22, 23, 26].all fun u => !Tryd.prog.wantsStandIn u) = true := by kernel_rfl
        exact (show Tryd.prog.wantsStandIn t = false by simpa using List.all_eq_true.1 hall t hm)⟩)
    (by kernel_rfl)
#print axioms proved
end Go.Proofs.YtmkjdmdjlmlmmaaDoor.demesneKept
