/- WalkPlays: in a memory of eight frames with any entries, walks one behind the other answer what the document's do, with the fault's code, and mark what it marks. No condition. -/
import Derived.Test.YtaebihgegiddnaaDoorRows
import Derived.Test.YtaebihgegiddnaaDoorCards
import Derived.Test.YtaebihgegiddnaaDoorTie
import Derived.ProofKit
import Derived.OpenShut
import Derived.Stop.Joined
import Derived.SevenTiedAt
import Derived.Test.YtaebihgegiddnaaDoorVF
import Derived.Deep.DeepCutAuto
namespace Go.Proofs.YtaebihgegiddnaaDoor.walkPlays
open Go.ChangeShapes Go.WideShapes Go.ChangeAt Go.RowKit
set_option linter.unusedSimpArgs false
set_option linter.unusedVariables false
set_option maxRecDepth 8000

set_option maxHeartbeats 8000000 in
theorem walk (p0 : Option Addr) (n0 c0 : Nat) (A0 : Nat → Pt) (m0 : n0 ≤ maxLen) (p1 : Option Addr) (n1 c1 : Nat) (A1 : Nat → Sp) (m1 : n1 ≤ maxLen) (w : World) (ht : Tab w) (H0 : IsPuts w p0 n0 A0) (H1 : IsSteps w p1 n1 A1) :
    Calls Tryd.prog 3 #[.slice p0 n0 c0, .slice p1 n1 c1] w fun e w' => e = .returned (.bool true) ∧ Below w.heap.size w w' := by
  have mx : 2000 < maxLen := by decide +kernel
  have MX : Hid (2000 < maxLen) := mx
  clear mx
  have AW : Hid (∀ W : World, Below w.heap.size w W → Calls Tryd.prog 6 #[] W fun e w' => e = .returned (.bool true) ∧ Below W.heap.size W w') := fun W hb => awake_any W (ht.below hb ht.1)
  obtain ⟨M0, hM0⟩ : ∃ M0, M0 = layM A0 (min n0 40) := ⟨_, rfl⟩
  have LY : Hid (Calls Tryd.prog 5 #[.slice p0 n0 c0] w fun e w' => ∃ (rb g mb xb : Nat) (K : Nat → Prop) (S : List Nat), e = .returned (.tuple #[.pointer (some ⟨rb, 0, none⟩), .agg #[.int .i64 8, .slice (some ⟨g, 0, none⟩) 1 1, .map (some mb)]]) ∧ Play w w' K S rb 8 [(7, 8)] g 1 mb xb M0 M0 80 320) := by
    rw [hM0]; exact lay_ex p0 n0 c0 A0 m0 w H0
  have HP0 : Hid (IsPuts w p0 n0 A0) := H0
  have HS0 : Hid (IsSteps w p1 n1 A1) := H1
  have HT : Hid (Tab w) := ht
  have mm : (n1 : Int) ≤ 9223372036854775807 := by
    have : maxLen ≤ 9223372036854775807 := by decide +kernel
    omega
  clear hM0 H0 H1 ht
  go_enter Tryd.func3, Tryd.ntmps3
  go_wp2_with fail
  refine LY.out.mono ?_
  rintro e u1 ⟨rb, g, mb, xb, K, S, rfl, h1⟩
  obtain ⟨K1, k1a, k1b, h9⟩ := h1.box1 (.cells #[.int .i64 8, .slice (some ⟨g, 0, none⟩) 1 1, .map (some mb)] 28)
  have P1 : Hid (Play w (u1.alloc (.cells #[.int .i64 8, .slice (some ⟨g, 0, none⟩) 1 1, .map (some mb)] 28)) K1 S rb 8 [(7, 8)] g 1 mb xb M0 M0 80 320) := h9
  have X1 : Hid (Blk (u1.alloc (.cells #[.int .i64 8, .slice (some ⟨g, 0, none⟩) 1 1, .map (some mb)] 28)) u1.heap.size [.int .i64 8, .slice (some ⟨g, 0, none⟩) 1 1, .map (some mb)] 28) := Blk.made u1 [.int .i64 8, .slice (some ⟨g, 0, none⟩) 1 1, .map (some mb)] 28
  have KX : Hid (K1 u1.heap.size) := k1b
  clear LY h1 h9 k1a k1b
  go_wp2_with fail
  refine (AW.out _ P1.out.bel).mono ?_
  rintro e u2 ⟨rfl, hb⟩
  have P2 : Hid (PS w u2 S rb g mb xb u1.heap.size 0) := ⟨K1, M0, 80, 320, P1.out.grow (below_g0 hb), by omega, by omega, KX.out, X1.out.below hb⟩
  clear hb P1 X1 KX AW
  obtain ⟨xB, hxB⟩ : ∃ b, b = u1.heap.size := ⟨_, rfl⟩
  rw [← hxB] at P2 ⊢
  clear hxB
  go_wp2_with fail
  go_loopw [7] (fun i W => ∃ k : Nat, k ≤ n1 ∧ k ≤ 20 ∧ i = .int .i64 k ∧ Hid (PS w W S rb g mb xb xB k)) (fun i _ => 20 - (intOf i).toNat)
  case atStart => exact ⟨0, by omega, by omega, rfl, P2⟩
  case round =>
    clear P2
    obtain ⟨k, hk, hk20, rfl, hp⟩ := hrel
    by_cases hlt : k < n1
    rotate_left
    · have hd : decide ((k : Int) < (n1 : Int)) = false := by simp; omega
      go_wp2_with fail
      go_ret
      obtain ⟨K, M, n, m, h, _⟩ := hp.out
      exact ⟨rfl, h.bel⟩
    have hd : decide ((k : Int) < (n1 : Int)) = true := by simp; omega
    by_cases hl4 : k < 20
    rotate_left
    · have hd2 : decide ((k : Int) < 20) = false := by simp; omega
      go_wp2_with fail
      go_ret
      obtain ⟨K, M, n, m, h, _⟩ := hp.out
      exact ⟨rfl, h.bel⟩
    have hd2 : decide ((k : Int) < 20) = true := by simp; omega
    have hd0 : decide ((k : Int) < 0) = false := by simp
    obtain ⟨K, M, n, m, hP, hn, hm, hKx, hX⟩ := hp.out
    clear hp
    obtain ⟨bq, oq, rfl, lq, y0, y1, y2, y3, y4, gx⟩ := (HS0.out.below hP.bel) k hlt
    have z0 : wr.cell? ⟨bq, oq + k * 5, none⟩ = some (.int .i64 (A1 k).rt) := y0
    have z1 : wr.cell? ⟨bq, oq + k * 5 + 1, none⟩ = some (.int .u64 (A1 k).ad) := y1
    have z2 : wr.cell? ⟨bq, oq + k * 5 + 2, none⟩ = some (.bool (A1 k).x) := y2
    have z3 : wr.cell? ⟨bq, oq + k * 5 + 3, none⟩ = some (.bool (A1 k).u) := y3
    have z4 : wr.cell? ⟨bq, oq + k * 5 + 4, none⟩ = some (.bool (A1 k).f) := y4
    clear y0 y1 y2 y3 y4
    generalize A1 k = st at z0 z1 z2 z3 z4 gx
    obtain ⟨rt, ad, x, u, f⟩ := st
    simp only at z0 z1 z2 z3 z4 gx
    have hb1 := wf_u64 gx
    clear gx
    obtain ⟨K2, k2a, k2b, hP2⟩ := hP.box1 (.cells #[.int .i64 rt, .int .u64 ad, .bool x, .bool u, .bool f] 36)
    have SB : Hid (Blk (wr.alloc (.cells #[.int .i64 rt, .int .u64 ad, .bool x, .bool u, .bool f] 36)) wr.heap.size [.int .i64 rt, .int .u64 ad, .bool x, .bool u, .bool f] 36) := Blk.made wr [.int .i64 rt, .int .u64 ad, .bool x, .bool u, .bool f] 36
    have XB : Hid (Blk (wr.alloc (.cells #[.int .i64 rt, .int .u64 ad, .bool x, .bool u, .bool f] 36)) xB [.int .i64 8, .slice (some ⟨g, 0, none⟩) 1 1, .map (some mb)] 28) := hX.below (Go.Joins.below_alloc1 _ _)
    have lxB : xB < wr.heap.size := blk_lt hX
    have hM : ∀ t, 0 ≤ M t ∧ M t < 256 := hP.ram.ram.byte
    have HM : Hid (∀ t, 0 ≤ M t ∧ M t < 256) := hM
    obtain ⟨r1, hr1⟩ : ∃ r1, r1 = walkW Has8 M rt ad x u f := ⟨_, rfl⟩
    have C1 : Calls Tryd.prog 7 #[.pointer (some ⟨rb, 0, none⟩), .int .i64 rt, .int .u64 ad, .agg #[.bool x, .bool u, .bool f]] (wr.alloc (.cells #[.int .i64 rt, .int .u64 ad, .bool x, .bool u, .bool f] 36)) fun e w' => e = .returned r1.val ∧ Play w w' K2 S rb 8 [(7, 8)] g 1 mb xb r1.M M (n + 8) m ∧ Kept K2 (wr.alloc (.cells #[.int .i64 rt, .int .u64 ad, .bool x, .bool u, .bool f] 36)) w' := by
      rw [hr1]; exact walk_play hP2 HT.out (by have := MX.out; omega) rt ad hb1.1 hb1.2 x u f
    have D1 : ∀ (K3 : Nat → Prop) (n3 : Nat) (W : World), Play w W K3 S rb 8 [(7, 8)] g 1 mb xb r1.M M n3 m → Calls Tryd.prog 8 #[.agg #[.int .i64 8, .slice (some ⟨g, 0, none⟩) 1 1, .map (some mb)], .int .i64 rt, .int .u64 ad, .agg #[.bool x, .bool u, .bool f]] W fun e w' => e = .returned r1.ans ∧ (∃ m', m' ≤ m + 32 ∧ Play w w' K3 S rb 8 [(7, 8)] g 1 mb xb r1.M r1.M n3 m') ∧ W.grownBy w' (some mb) := by
      rw [hr1]; exact fun K3 n3 W h => rwalk_play h hM (by have := MX.out; omega) rt ad hb1.1 hb1.2 x u f
    have FF := walk_fault M rt ad x u f
    rw [← hr1] at FF
    clear hr1 hM
    obtain ⟨er, fa, fc, fr, pw, pu, px, gl, la, di, M1⟩ := r1
    simp only at FF
    have FF' : Hid _ := FF
    have C1 : Hid (Calls Tryd.prog 7 #[.pointer (some ⟨rb, 0, none⟩), .int .i64 rt, .int .u64 ad, .agg #[.bool x, .bool u, .bool f]] (wr.alloc (.cells #[.int .i64 rt, .int .u64 ad, .bool x, .bool u, .bool f] 36)) fun e w' => e = .returned (.tuple #[.agg #[.int .i64 fr, .bool pw, .bool pu, .bool px, .bool gl, .bool la, .bool di], .agg #[.int .u64 fa, .int .i64 fc], .int .i64 er]) ∧ Play w w' K2 S rb 8 [(7, 8)] g 1 mb xb M1 M (n + 8) m ∧ Kept K2 (wr.alloc (.cells #[.int .i64 rt, .int .u64 ad, .bool x, .bool u, .bool f] 36)) w') := C1
    have D1 : Hid (∀ (K3 : Nat → Prop) (n3 : Nat) (W : World), Play w W K3 S rb 8 [(7, 8)] g 1 mb xb M1 M n3 m → Calls Tryd.prog 8 #[.agg #[.int .i64 8, .slice (some ⟨g, 0, none⟩) 1 1, .map (some mb)], .int .i64 rt, .int .u64 ad, .agg #[.bool x, .bool u, .bool f]] W fun e w' => e = .returned (.tuple #[.agg #[.int .i64 fr, .bool pw, .bool pu, .bool px, .bool gl, .bool la, .bool di], .int .i64 fc, .int .i64 er]) ∧ (∃ m', m' ≤ m + 32 ∧ Play w w' K3 S rb 8 [(7, 8)] g 1 mb xb M1 M1 n3 m') ∧ W.grownBy w' (some mb)) := D1
    have KX2 : Hid (K2 xB ∧ K2 wr.heap.size) := ⟨k2a _ hKx, k2b⟩
    clear FF hP hP2 k2a k2b hKx hX
    go_wp2_with fail
    refine C1.out.mono ?_
    rintro e u3 ⟨rfl, h3, k3⟩
    have S3 : Hid (Blk u3 wr.heap.size [.int .i64 rt, .int .u64 ad, .bool x, .bool u, .bool f] 36) := SB.out.kept k3 KX2.out.2
    have X3 : Hid (Blk u3 xB [.int .i64 8, .slice (some ⟨g, 0, none⟩) 1 1, .map (some mb)] 28) := XB.out.kept k3 KX2.out.1
    obtain ⟨K4, k4a, k4b, k4c, h4⟩ := h3.box2 (.cells #[.int .i64 fr, .bool pw, .bool pu, .bool px, .bool gl, .bool la, .bool di] 40) (.cells #[.int .u64 fa, .int .i64 fc] 42)
    have P4 : Hid (Play w ((u3.alloc (.cells #[.int .i64 fr, .bool pw, .bool pu, .bool px, .bool gl, .bool la, .bool di] 40)).alloc (.cells #[.int .u64 fa, .int .i64 fc] 42)) K4 S rb 8 [(7, 8)] g 1 mb xb M1 M (n + 8) m) := h4
    have KX4 : Hid (K4 xB) := k4a _ KX2.out.1
    have ls3 : wr.heap.size < u3.heap.size := blk_lt S3.out
    have lx3 : xB < u3.heap.size := blk_lt X3.out
    have mb3 : Hid (mb < u3.heap.size) := h3.mem.lt
    have mk := made_2 u3 [.int .i64 fr, .bool pw, .bool pu, .bool px, .bool gl, .bool la, .bool di] [.int .u64 fa, .int .i64 fc] 40 42
    have F4 : Hid (Blk ((u3.alloc (.cells #[.int .i64 fr, .bool pw, .bool pu, .bool px, .bool gl, .bool la, .bool di] 40)).alloc (.cells #[.int .u64 fa, .int .i64 fc] 42)) u3.heap.size [.int .i64 fr, .bool pw, .bool pu, .bool px, .bool gl, .bool la, .bool di] 40) := mk.1
    have G4 : Hid (Blk ((u3.alloc (.cells #[.int .i64 fr, .bool pw, .bool pu, .bool px, .bool gl, .bool la, .bool di] 40)).alloc (.cells #[.int .u64 fa, .int .i64 fc] 42)) (u3.heap.size + 1) [.int .u64 fa, .int .i64 fc] 42) := mk.2
    have S4 : Hid (Blk ((u3.alloc (.cells #[.int .i64 fr, .bool pw, .bool pu, .bool px, .bool gl, .bool la, .bool di] 40)).alloc (.cells #[.int .u64 fa, .int .i64 fc] 42)) wr.heap.size [.int .i64 rt, .int .u64 ad, .bool x, .bool u, .bool f] 36) := S3.out.below (Go.Joins.below_alloc2 _ _ _)
    have X4 : Hid (Blk ((u3.alloc (.cells #[.int .i64 fr, .bool pw, .bool pu, .bool px, .bool gl, .bool la, .bool di] 40)).alloc (.cells #[.int .u64 fa, .int .i64 fc] 42)) xB [.int .i64 8, .slice (some ⟨g, 0, none⟩) 1 1, .map (some mb)] 28) := X3.out.below (Go.Joins.below_alloc2 _ _ _)
    have D4 : Hid (Calls Tryd.prog 8 #[.agg #[.int .i64 8, .slice (some ⟨g, 0, none⟩) 1 1, .map (some mb)], .int .i64 rt, .int .u64 ad, .agg #[.bool x, .bool u, .bool f]] ((u3.alloc (.cells #[.int .i64 fr, .bool pw, .bool pu, .bool px, .bool gl, .bool la, .bool di] 40)).alloc (.cells #[.int .u64 fa, .int .i64 fc] 42)) fun e w' => e = .returned (.tuple #[.agg #[.int .i64 fr, .bool pw, .bool pu, .bool px, .bool gl, .bool la, .bool di], .int .i64 fc, .int .i64 er]) ∧ (∃ m', m' ≤ m + 32 ∧ Play w w' K4 S rb 8 [(7, 8)] g 1 mb xb M1 M1 (n + 8) m') ∧ ((u3.alloc (.cells #[.int .i64 fr, .bool pw, .bool pu, .bool px, .bool gl, .bool la, .bool di] 40)).alloc (.cells #[.int .u64 fa, .int .i64 fc] 42)).grownBy w' (some mb)) := D1.out K4 (n + 8) _ h4
    clear h3 k3 h4 k4a k4b k4c mk SB XB C1 D1 KX2 z0 z1 z2 z3 z4
    have s0 : u3.cell? ⟨wr.heap.size, 0, none⟩ = some (.int .i64 rt) := Blk.cell S3.out 0
    have s1 : u3.cell? ⟨wr.heap.size, 1, none⟩ = some (.int .u64 ad) := Blk.cell S3.out 1
    have s2 : u3.cell? ⟨wr.heap.size, 2, none⟩ = some (.bool x) := Blk.cell S3.out 2
    have s3 : u3.cell? ⟨wr.heap.size, 3, none⟩ = some (.bool u) := Blk.cell S3.out 3
    have s4 : u3.cell? ⟨wr.heap.size, 4, none⟩ = some (.bool f) := Blk.cell S3.out 4
    have x0 : u3.cell? ⟨xB, 0, none⟩ = some (.int .i64 8) := Blk.cell X3.out 0
    have x1 : u3.cell? ⟨xB, 1, none⟩ = some (.slice (some ⟨g, 0, none⟩) 1 1) := Blk.cell X3.out 1
    have x2 : u3.cell? ⟨xB, 2, none⟩ = some (.map (some mb)) := Blk.cell X3.out 2
    go_wp2_with fail
    refine D4.out.mono ?_
    rintro e u5 ⟨rfl, ⟨m', hm', h5⟩, hg5⟩
    have nb : ∀ b, b < ((u3.alloc (.cells #[.int .i64 fr, .bool pw, .bool pu, .bool px, .bool gl, .bool la, .bool di] 40)).alloc (.cells #[.int .u64 fa, .int .i64 fc] 42)).heap.size → b ≠ mb → u5.heap[b]? = ((u3.alloc (.cells #[.int .i64 fr, .bool pw, .bool pu, .bool px, .bool gl, .bool la, .bool di] 40)).alloc (.cells #[.int .u64 fa, .int .i64 fc] 42)).heap[b]? := fun b l ne => hg5.block b l (fun e => ne (Option.some.inj e))
    have ne1 : xB ≠ mb := fun e => by
      have h1 := X4.out
      rw [e] at h1
      obtain ⟨D, ⟨es, clock, hh, _⟩, _⟩ := P4.out.mem
      cases (Option.some.inj (h1.symm.trans hh))
    have ne2 : wr.heap.size ≠ mb := fun e => by
      have h1 := S4.out
      rw [e] at h1
      obtain ⟨D, ⟨es, clock, hh, _⟩, _⟩ := P4.out.mem
      cases (Option.some.inj (h1.symm.trans hh))
    have F5 : Hid (Blk u5 u3.heap.size [.int .i64 fr, .bool pw, .bool pu, .bool px, .bool gl, .bool la, .bool di] 40) := (nb _ (blk_lt F4.out) (by have := mb3.out; omega)).trans F4.out
    have G5 : Hid (Blk u5 (u3.heap.size + 1) [.int .u64 fa, .int .i64 fc] 42) := (nb _ (blk_lt G4.out) (by have := mb3.out; omega)).trans G4.out
    have S5 : Hid (Blk u5 wr.heap.size [.int .i64 rt, .int .u64 ad, .bool x, .bool u, .bool f] 36) := (nb _ (blk_lt S4.out) ne2).trans S4.out
    have X5 : Hid (Blk u5 xB [.int .i64 8, .slice (some ⟨g, 0, none⟩) 1 1, .map (some mb)] 28) := (nb _ (blk_lt X4.out) ne1).trans X4.out
    obtain ⟨K6, k6a, k6b, h6⟩ := h5.box1 (.cells #[.int .i64 fr, .bool pw, .bool pu, .bool px, .bool gl, .bool la, .bool di] 47)
    have P6 : Hid (Play w (u5.alloc (.cells #[.int .i64 fr, .bool pw, .bool pu, .bool px, .bool gl, .bool la, .bool di] 47)) K6 S rb 8 [(7, 8)] g 1 mb xb M1 M1 (n + 8) m') := h6
    have KX6 : Hid (K6 xB) := k6a _ KX4.out
    have ls5 : wr.heap.size < u5.heap.size := blk_lt S5.out
    have lx5 : xB < u5.heap.size := blk_lt X5.out
    have lf5 : u3.heap.size + 1 < u5.heap.size := blk_lt G5.out
    have s9 := World.size_alloc u5 (.cells #[.int .i64 fr, .bool pw, .bool pu, .bool px, .bool gl, .bool la, .bool di] 47)
    have S9 : Hid ((u5.alloc (.cells #[.int .i64 fr, .bool pw, .bool pu, .bool px, .bool gl, .bool la, .bool di] 47)).heap.size = u5.heap.size + 1) := s9
    have GG : Hid (Blk (u5.alloc (.cells #[.int .i64 fr, .bool pw, .bool pu, .bool px, .bool gl, .bool la, .bool di] 47)) u5.heap.size [.int .i64 fr, .bool pw, .bool pu, .bool px, .bool gl, .bool la, .bool di] 47) := Blk.made u5 [.int .i64 fr, .bool pw, .bool pu, .bool px, .bool gl, .bool la, .bool di] 47
    clear nb ne1 ne2 h5 hg5 h6 k6a k6b s9 P4 D4 F4 G4 S4 X4 S3 X3 mb3 KX4 s0 s1 s2 s3 s4 x0 x1 x2 ls3 lx3
    go_upto_if 67 with fail
    go_cut [] (fun wx => Hid (Below (u5.alloc (.cells #[.int .i64 fr, .bool pw, .bool pu, .bool px, .bool gl, .bool la, .bool di] 47)).heap.size (u5.alloc (.cells #[.int .i64 fr, .bool pw, .bool pu, .bool px, .bool gl, .bool la, .bool di] 47)) wx) ∧ Hid (Blk wx (u5.heap.size + 1) [.int .u64 fa, .int .i64 fc] 42))
    case first =>
      have s0 : u5.cell? ⟨wr.heap.size, 0, none⟩ = some (.int .i64 rt) := Blk.cell S5.out 0
      have s1 : u5.cell? ⟨wr.heap.size, 1, none⟩ = some (.int .u64 ad) := Blk.cell S5.out 1
      have s2 : u5.cell? ⟨wr.heap.size, 2, none⟩ = some (.bool x) := Blk.cell S5.out 2
      have s3 : u5.cell? ⟨wr.heap.size, 3, none⟩ = some (.bool u) := Blk.cell S5.out 3
      have s4 : u5.cell? ⟨wr.heap.size, 4, none⟩ = some (.bool f) := Blk.cell S5.out 4
      have ff1 := FF'.out.1
      have ff2 := FF'.out.2
      clear FF' F5 G5 S5 X5 P6 GG
      by_cases e9 : er = 9
      · have b9 : (er == 9) = true := by simp [e9]
        have ea := ff1 e9
        clear ff1 ff2
        subst ea
        go_wp2_with fail
        go_meet
        refine ⟨?_, ?_⟩
        · show Below _ _ _
          exact Go.Joins.below_alloc1 _ _
        · show Blk _ _ _ _
          have q := Blk.made (u5.alloc (.cells #[.int .i64 fr, .bool pw, .bool pu, .bool px, .bool gl, .bool la, .bool di] 47)) [.int .u64 fa, .int .i64 fc] 42
          rw [S9.out] at q
          exact q
      · have b9 : (er == 9) = false := by simp [e9]
        obtain ⟨ea, ec⟩ := ff2 e9
        clear ff1 ff2
        subst ea
        subst ec
        go_wp2_with fail
        go_meet
        refine ⟨?_, ?_⟩
        · exact Go.Joins.below_alloc1 _ _
        · have q := Blk.made (u5.alloc (.cells #[.int .i64 fr, .bool pw, .bool pu, .bool px, .bool gl, .bool la, .bool di] 47)) [.int .u64 0, .int .i64 0] 42
          rw [S9.out] at q
          exact q
    obtain ⟨hB, hW⟩ := hcut
    have P7 : Hid (Play w wc K6 S rb 8 [(7, 8)] g 1 mb xb M1 M1 (n + 8) m') := P6.out.grow (below_g0 hB.out)
    have up : ∀ {b : Nat} {C : List Value} {t : TypeId}, Blk u5 b C t → Blk wc b C t := fun h => (h.below (Go.Joins.below_alloc1 _ _)).below hB.out
    have F7 : Hid (Blk wc u3.heap.size [.int .i64 fr, .bool pw, .bool pu, .bool px, .bool gl, .bool la, .bool di] 40) := up F5.out
    have G7 : Hid (Blk wc (u3.heap.size + 1) [.int .u64 fa, .int .i64 fc] 42) := up G5.out
    have X7 : Hid (Blk wc xB [.int .i64 8, .slice (some ⟨g, 0, none⟩) 1 1, .map (some mb)] 28) := up X5.out
    have Q7 : Hid (Blk wc u5.heap.size [.int .i64 fr, .bool pw, .bool pu, .bool px, .bool gl, .bool la, .bool di] 47) := GG.out.below hB.out
    have SM : Hid (Calls Tryd.prog 9 #[.pointer (some ⟨rb, 0, none⟩), .agg #[.int .i64 8, .slice (some ⟨g, 0, none⟩) 1 1, .map (some mb)], .slice p0 n0 c0] wc fun e w' => e = .returned (.int .i64 0) ∧ Below wc.heap.size wc w') := same_any P7.out p0 n0 c0 A0 m0 (HP0.out.below P7.out.bel)
    have NF : ∀ W : World, (binOp .neq 40 (.agg #[.int .i64 fr, .bool pw, .bool pu, .bool px, .bool gl, .bool la, .bool di]) (.agg #[.int .i64 fr, .bool pw, .bool pu, .bool px, .bool gl, .bool la, .bool di])).run Tryd.prog W = .ok (.bool false) W := fun W => (neFd ⟨fr, pw, pu, px, gl, la, di⟩ ⟨fr, pw, pu, px, gl, la, di⟩ W).trans (by simp)
    have NT : ∀ W : World, (binOp .neq 42 (.agg #[.int .u64 fa, .int .i64 fc]) (.agg #[.int .u64 fa, .int .i64 fc])).run Tryd.prog W = .ok (.bool false) W := fun W => (neFault fa fc fa fc W).trans (by simp)
    have ne0 : (er != er) = false := by simp
    have fa_0 : wc.cell? ⟨u3.heap.size, 0, none⟩ = some (.int .i64 fr) := Blk.cell F7.out 0
    have fa_1 : wc.cell? ⟨u3.heap.size, 1, none⟩ = some (.bool pw) := Blk.cell F7.out 1
    have fa_2 : wc.cell? ⟨u3.heap.size, 2, none⟩ = some (.bool pu) := Blk.cell F7.out 2
    have fa_3 : wc.cell? ⟨u3.heap.size, 3, none⟩ = some (.bool px) := Blk.cell F7.out 3
    have fa_4 : wc.cell? ⟨u3.heap.size, 4, none⟩ = some (.bool gl) := Blk.cell F7.out 4
    have fa_5 : wc.cell? ⟨u3.heap.size, 5, none⟩ = some (.bool la) := Blk.cell F7.out 5
    have fa_6 : wc.cell? ⟨u3.heap.size, 6, none⟩ = some (.bool di) := Blk.cell F7.out 6
    have ga_0 : wc.cell? ⟨u3.heap.size + 1, 0, none⟩ = some (.int .u64 fa) := Blk.cell G7.out 0
    have ga_1 : wc.cell? ⟨u3.heap.size + 1, 1, none⟩ = some (.int .i64 fc) := Blk.cell G7.out 1
    have xa_0 : wc.cell? ⟨xB, 0, none⟩ = some (.int .i64 8) := Blk.cell X7.out 0
    have xa_1 : wc.cell? ⟨xB, 1, none⟩ = some (.slice (some ⟨g, 0, none⟩) 1 1) := Blk.cell X7.out 1
    have xa_2 : wc.cell? ⟨xB, 2, none⟩ = some (.map (some mb)) := Blk.cell X7.out 2
    have qa_0 : wc.cell? ⟨u5.heap.size, 0, none⟩ = some (.int .i64 fr) := Blk.cell Q7.out 0
    have qa_1 : wc.cell? ⟨u5.heap.size, 1, none⟩ = some (.bool pw) := Blk.cell Q7.out 1
    have qa_2 : wc.cell? ⟨u5.heap.size, 2, none⟩ = some (.bool pu) := Blk.cell Q7.out 2
    have qa_3 : wc.cell? ⟨u5.heap.size, 3, none⟩ = some (.bool px) := Blk.cell Q7.out 3
    have qa_4 : wc.cell? ⟨u5.heap.size, 4, none⟩ = some (.bool gl) := Blk.cell Q7.out 4
    have qa_5 : wc.cell? ⟨u5.heap.size, 5, none⟩ = some (.bool la) := Blk.cell Q7.out 5
    have qa_6 : wc.cell? ⟨u5.heap.size, 6, none⟩ = some (.bool di) := Blk.cell Q7.out 6
    have wa_0 : wc.cell? ⟨u5.heap.size + 1, 0, none⟩ = some (.int .u64 fa) := Blk.cell hW.out 0
    have wa_1 : wc.cell? ⟨u5.heap.size + 1, 1, none⟩ = some (.int .i64 fc) := Blk.cell hW.out 1
    clear up hB F5 G5 S5 X5 GG P6 F7 G7 Q7 FF' hW S9
    go_wp2_with fail
    refine SM.out.mono ?_
    rintro e u8 ⟨rfl, hb⟩
    have P8 : Hid (PS w u8 S rb g mb xb xB (k + 1)) := ⟨K6, M1, n + 8, m', P7.out.grow (below_g0 hb), by omega, by omega, KX6.out, X7.out.below hb⟩
    clear hb P7 SM X7 KX6
    go_wp2_with fail
    go_roundw
    case rel => exact ⟨k + 1, by omega, by omega, by go_num, P8⟩
    case measure => simp [intOf]; omega

set_option maxRecDepth 100000 in
theorem lifted (os : Os) (started : os.Started) (H : Type) (enc : TypeId × Value → H) :
    ReturnsInHanded {} Tryd.checked os 3 .any (fun w args => (Rows.walkPlaysSpec.pre enc Tryd.prog Tryd.f3 [] false w args ∧ laidMetH Tryd.prog laidL w) ∧ sizedMet enc Tryd.prog Tryd.f3 (OpenSpec.ofChange Rows.walkPlaysSpec) false w args)
      (Rows.walkPlaysSpec.post enc Tryd.prog Tryd.f3 false true false false) := by
  refine returnsInHanded_of_change_and (C := Tryd.checked) (X := fun w _ => laidMetH Tryd.prog laidL w) (fun _ _ _ hh h => h.of_heap hh) own started (by kernel_rfl) Tryd.func3
    (ChangeSpec.witness_shaped (enc := enc) (C := Tryd.checked) (os := os) (X := fun w _ => laidMetH Tryd.prog laidL w) false (World.doorLaid Tryd.prog 400 os) #[.slice none 0 0, .slice none 0 0] 8 rfl (World.shaped_of_RefB (by kernel_rfl) (by kernel_rfl)) (by kernel_rfl) (by kernel_rfl) (by kernel_rfl) (door_met os _)) ?_
  intro W base args ds gs before hval0 hW _ _ hL _
  have hval : ∀ (j : Nat) t v, Tryd.f3.params[j]? = some t → args[j]? = some v → Value.okWide Tryd.prog W .any base t v := hval0
  have hW' := hW
  obtain ⟨p, q, hA0, hV, hbef, hfz, hnd⟩ := hW
  have hA : DataW.TrodAll enc Tryd.prog W 0 (fun _ => true) true Tryd.f3.params.toList args.toList ds p := hA0
  have hAk := hA
  have hlt : ∀ x ∈ p, x.block < W.heap.size := fun x hx => hW'.lt x (by rw [hbef]; exact List.mem_append_left _ hx)
  rw [Tryd.params3] at hA hval
  obtain ⟨v0, vs0, d0, ds0, p0, q0, hargs, rfl, hp0, h0, r0⟩ := trodAll_cons hA
  obtain ⟨v1, vs1, d1, ds1, p1, q1, rfl, rfl, hp1, h1, r1⟩ := trodAll_cons r0
  obtain ⟨rfl, rfl, hpz⟩ := trodAll_nil r1
  obtain rfl : args = #[v0, v1] := by cases args; simp_all
  obtain ⟨rfl, rfl⟩ := trodVars_none hV
  obtain ⟨p0, n0, c0, A0, rfl, m0, H0⟩ := open_puts (hval 0 22 v0 rfl rfl) h0
  obtain ⟨p1, n1, c1, A1, rfl, m1, H1⟩ := open_steps (hval 1 23 v1 rfl rfl) h1
  clear hA0 hval0
  refine (walk p0 n0 c0 A0 m0 p1 n1 c1 A1 m1 W (of_laid hL) H0 H1).mono fun e W' ⟨he, hg⟩ => ?_
  subst he
  exact ⟨_, rfl, ⟨_, _, _, [], p, [], hW', (trodAll_cons_mk (shut_bool Tryd.underlying4 _) trodAll_mk0), args_stay laidOut hg (by kernel_rfl) hAk hlt, rfl, hg.frame _, fun h => by cases h⟩⟩

theorem over : Rows.walkPlaysRow.holds Tryd.pinned (OpenSpec.ofChange Rows.walkPlaysSpec) :=
  OpenClaim.holds_of_wide 3 Tryd.f3 rfl rfl rfl rfl rfl rfl rfl ⟨rfl, rfl, rfl, rfl, rfl⟩ rfl rfl rfl rfl rfl (by kernel_rfl) Tryd.func3 (by kernel_rfl)
    (of_decide_eq_true (by kernel_rfl)) (by unfold Func.isWrapper; first | (rw [if_pos (by decide +kernel)]; kernel_rfl) | (rw [if_neg (by decide +kernel)]; exact ⟨rfl, rfl⟩))
    (fun os started H enc _ => lifted os started H enc)

theorem proved : Rows.WalkPlaysCardSaid :=
  Claim7.holds_tied_plain_at .later [] [.data] true (true, "8ff7d9be87bf16557d1e3a5cb4e9ef98d17157286c65b8d8089154d80088c6c8") true
    over (fun _ h => by cases h) (by kernel_rfl) (fun _ h => by cases h) walkPlays_row_tie rfl ⟨rfl, rfl⟩ (by kernel_rfl) rfl
    (fun f fn hf hfn => by
      obtain rfl : f = 3 := Option.some.inj ((show Tryd.prog.funcNamed "demesne/demesnelaw04.WalkPlays" = some 3 by kernel_rfl).symm.trans hf) |>.symm
      obtain rfl : fn = Tryd.f3 := (Option.some.inj (Tryd.func3.symm.trans hfn)).symm
      exact ⟨by kernel_rfl, fun j t ht => by
        rw [Tryd.params3] at ht
        have hm : t ∈ [22, 23] := by simpa using Array.mem_of_getElem? ht
        have hall : ([22, 23].all fun u => !Tryd.prog.wantsStandIn u) = true := by kernel_rfl
        exact (show Tryd.prog.wantsStandIn t = false by simpa using List.all_eq_true.1 hall t hm)⟩)
    (by kernel_rfl)
#print axioms proved
end Go.Proofs.YtaebihgegiddnaaDoor.walkPlays
