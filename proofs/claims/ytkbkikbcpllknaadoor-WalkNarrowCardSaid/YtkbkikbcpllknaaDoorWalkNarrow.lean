/- WalkNarrow: an entry on the way without a right takes it from the page, whichever level it is of; with all rights all accesses may be. No condition. -/
import Derived.Test.YtkbkikbcpllknaaDoorRows
import Derived.Test.YtkbkikbcpllknaaDoorCards
import Derived.Test.YtkbkikbcpllknaaDoorTie
import Derived.ProofKit
import Derived.OpenShut
import Derived.Stop.Joined
import Derived.SevenTiedAt
import Derived.Test.YtkbkikbcpllknaaDoorV3
import Derived.Deep.DeepCutAuto
import Derived.Deep.CutBlock
namespace Go.Proofs.YtkbkikbcpllknaaDoor.walkNarrow
open Go.ChangeShapes Go.WideShapes Go.ChangeAt Go.RowKit
set_option linter.unusedSimpArgs false
set_option linter.unusedVariables false
set_option maxRecDepth 8000
def baseN (k : Nat) : Int := [4103, 8199, 12295, 16391][k]?.getD 0
/-- the entries, one of them without a right -/
def XN (l b k : Nat) : Int := if k = l then (if b = 1 then baseN k - 2 else if b = 2 then baseN k - 4 else if b = 3 then baseN k + 9223372036854775808 else if b = 4 then baseN k - 1 else baseN k) else baseN k
def AN (l b k : Nat) : Pt := ⟨k, 0, XN l b k⟩
def wantN (b : Nat) (x u f : Bool) : Int := if b = 1 then (if x then 9 else 0) else if b = 2 then (if u then 9 else 0) else if b = 3 then (if f then 9 else 0) else if b = 4 then 9 else 0
def NOk (l b : Nat) (x u f : Bool) : Bool :=
  let r := walkW Has8 (layM (AN l b) 4) 0 123 x u f
  decide (r.er = wantN b x u f) && (decide (r.er = 0) || (decide (r.fa = 123) && ((bits .and .i64 r.fc 1 == 0) == decide (b = 4)))) && (!decide (r.er = 0) || decide (r.fr = 4))
theorem narrow_all : ∀ l : Fin 4, ∀ b : Fin 5, ∀ x u f : Bool, NOk l b x u f = true := by decide +kernel
theorem xn_wf : ∀ l : Fin 4, ∀ b : Fin 5, ∀ k : Fin 4, (Lit.int .u64 (XN l b k)).wf = true := by decide +kernel
theorem putsN (w : World) (l b : Nat) (hl : l < 4) (hb : b < 5) (x u f : Bool) : IsPuts ((w.alloc (.cells #[.bool x, .bool u, .bool f] 34)).alloc (.cells #[.int .i64 0, .int .i64 0, .int .u64 (XN l b 0), .int .i64 1, .int .i64 0, .int .u64 (XN l b 1), .int .i64 2, .int .i64 0, .int .u64 (XN l b 2), .int .i64 3, .int .i64 0, .int .u64 (XN l b 3)] 60)) (some ⟨w.heap.size + 1, 0, none⟩) 4 (AN l b) := by
  have q := own_new (w.alloc (.cells #[.bool x, .bool u, .bool f] 34)) (.cells #[.int .i64 0, .int .i64 0, .int .u64 (XN l b 0), .int .i64 1, .int .i64 0, .int .u64 (XN l b 1), .int .i64 2, .int .i64 0, .int .u64 (XN l b 2), .int .i64 3, .int .i64 0, .int .u64 (XN l b 3)] 60)
  rw [World.size_alloc] at q
  have wf : ∀ k, k < 4 → (Lit.int .u64 (XN l b k)).wf = true := fun k hk => xn_wf ⟨l, hl⟩ ⟨b, hb⟩ ⟨k, hk⟩
  intro i hi
  refine ⟨w.heap.size + 1, 0, rfl, by rw [World.size_alloc, World.size_alloc]; omega, ?_⟩
  match i, hi with
  | 0, _ => exact ⟨Go.Joins.cell_of_block q 0, Go.Joins.cell_of_block q 1, Go.Joins.cell_of_block q 2, wf 0 (by omega)⟩
  | 1, _ => exact ⟨Go.Joins.cell_of_block q 3, Go.Joins.cell_of_block q 4, Go.Joins.cell_of_block q 5, wf 1 (by omega)⟩
  | 2, _ => exact ⟨Go.Joins.cell_of_block q 6, Go.Joins.cell_of_block q 7, Go.Joins.cell_of_block q 8, wf 2 (by omega)⟩
  | 3, _ => exact ⟨Go.Joins.cell_of_block q 9, Go.Joins.cell_of_block q 10, Go.Joins.cell_of_block q 11, wf 3 (by omega)⟩

set_option maxHeartbeats 8000000 in
theorem walk (a0 : Int) (w0 : (Lit.int .i64 a0).wf = true) (a1 : Int) (w1 : (Lit.int .i64 a1).wf = true) (s2 : B3) (w : World) (ht : Tab w)  :
    Calls Tryd.prog 7 #[.int .i64 a0, .int .i64 a1, s2.val] w fun e w' => e = .returned (.bool true) ∧ Below w.heap.size w w' := by
  have mx : 1000 < maxLen := by decide +kernel
  have MX : Hid (1000 < maxLen) := mx
  clear mx
  have AW : Hid (∀ W : World, Below w.heap.size w W → Calls Tryd.prog 10 #[] W fun e w' => e = .returned (.bool true) ∧ Below W.heap.size W w') := fun W hb => awake_any W (ht.below hb ht.1)
  obtain ⟨x, u, f⟩ := s2
  clear w0 w1
  by_cases o0 : a0 < 0
  · have do0 : decide (a0 < 0) = true := decide_eq_true o0
    have BU : Hid (Below w.heap.size w (w.alloc (.cells #[.bool x, .bool u, .bool f] 34))) := Go.Joins.below_alloc1 _ _
    go_enter Tryd.func7, Tryd.ntmps7
    go_wp2_with fail
    refine (AW.out _ BU.out).mono ?_
    rintro e u9 ⟨rfl, hb⟩
    have B9 : Hid (Below w.heap.size w u9) := below_next BU.out hb
    clear hb
    go_wp2_with fail
    go_ret
    exact ⟨rfl, B9.out⟩
  have do0 : decide (a0 < 0) = false := decide_eq_false o0
  by_cases o1 : 3 < a0
  · have do1 : decide (3 < a0) = true := decide_eq_true o1
    have BU : Hid (Below w.heap.size w (w.alloc (.cells #[.bool x, .bool u, .bool f] 34))) := Go.Joins.below_alloc1 _ _
    go_enter Tryd.func7, Tryd.ntmps7
    go_wp2_with fail
    refine (AW.out _ BU.out).mono ?_
    rintro e u9 ⟨rfl, hb⟩
    have B9 : Hid (Below w.heap.size w u9) := below_next BU.out hb
    clear hb
    go_wp2_with fail
    go_ret
    exact ⟨rfl, B9.out⟩
  have do1 : decide (3 < a0) = false := decide_eq_false o1
  obtain ⟨l, hl, hl4⟩ : ∃ l : Nat, a0 = l ∧ l < 4 := ⟨a0.toNat, by omega, by omega⟩
  have HLV : Hid (a0 = l) := hl
  go_enter Tryd.func7, Tryd.ntmps7
  go_upto_block 0 with fail
  go_cut [8, 27] (fun vw _ W => ∃ b : Nat, b < 5 ∧ vw = .int .i64 (wantN b x u f) ∧ Hid ((a1 == 4) = decide (b = 4)) ∧ W = ((w.alloc (.cells #[.bool x, .bool u, .bool f] 34)).alloc (.cells #[.int .i64 0, .int .i64 0, .int .u64 (XN l b 0), .int .i64 1, .int .i64 0, .int .u64 (XN l b 1), .int .i64 2, .int .i64 0, .int .u64 (XN l b 2), .int .i64 3, .int .i64 0, .int .u64 (XN l b 3)] 60)))
  case first =>
    clear AW
    rcases (show l = 0 ∨ l = 1 ∨ l = 2 ∨ l = 3 by omega) with hl0 | hl0 | hl0 | hl0
    · subst hl0
      subst hl
      by_cases c1 : a1 = 1
      · subst c1
        have c4b : ((1 : Int) == 4) = false := by decide
        have bo : bits .andNot .u64 4103 2 = 4101 := by decide
        cases x <;> (go_wp2_with fail; go_meet; exact ⟨1, by omega, rfl, by show _ = _; simp [c4b], rfl⟩)
      have c1b : (a1 == 1) = false := by simpa using c1
      by_cases c2 : a1 = 2
      · subst c2
        have c4b : ((2 : Int) == 4) = false := by decide
        have bo : bits .andNot .u64 4103 4 = 4099 := by decide
        cases u <;> (go_wp2_with fail; go_meet; exact ⟨2, by omega, rfl, by show _ = _; simp [c4b], rfl⟩)
      have c2b : (a1 == 2) = false := by simpa using c2
      by_cases c3 : a1 = 3
      · subst c3
        have c4b : ((3 : Int) == 4) = false := by decide
        have bo : bits .or .u64 4103 9223372036854775808 = 9223372036854779911 := by decide
        cases f <;> (go_wp2_with fail; go_meet; exact ⟨3, by omega, rfl, by show _ = _; simp [c4b], rfl⟩)
      have c3b : (a1 == 3) = false := by simpa using c3
      by_cases c4 : a1 = 4
      · subst c4
        have c4b : ((4 : Int) == 4) = true := by decide
        have bo : bits .andNot .u64 4103 1 = 4102 := by decide
        go_wp2_with fail
        go_meet
        exact ⟨4, by omega, rfl, by show _ = _; simp [c4b], rfl⟩
      have c4b : (a1 == 4) = false := by simpa using c4
      go_wp2_with fail
      go_meet
      exact ⟨0, by omega, rfl, by show _ = _; simp [c4b], rfl⟩
    · subst hl0
      subst hl
      by_cases c1 : a1 = 1
      · subst c1
        have c4b : ((1 : Int) == 4) = false := by decide
        have bo : bits .andNot .u64 8199 2 = 8197 := by decide
        cases x <;> (go_wp2_with fail; go_meet; exact ⟨1, by omega, rfl, by show _ = _; simp [c4b], rfl⟩)
      have c1b : (a1 == 1) = false := by simpa using c1
      by_cases c2 : a1 = 2
      · subst c2
        have c4b : ((2 : Int) == 4) = false := by decide
        have bo : bits .andNot .u64 8199 4 = 8195 := by decide
        cases u <;> (go_wp2_with fail; go_meet; exact ⟨2, by omega, rfl, by show _ = _; simp [c4b], rfl⟩)
      have c2b : (a1 == 2) = false := by simpa using c2
      by_cases c3 : a1 = 3
      · subst c3
        have c4b : ((3 : Int) == 4) = false := by decide
        have bo : bits .or .u64 8199 9223372036854775808 = 9223372036854784007 := by decide
        cases f <;> (go_wp2_with fail; go_meet; exact ⟨3, by omega, rfl, by show _ = _; simp [c4b], rfl⟩)
      have c3b : (a1 == 3) = false := by simpa using c3
      by_cases c4 : a1 = 4
      · subst c4
        have c4b : ((4 : Int) == 4) = true := by decide
        have bo : bits .andNot .u64 8199 1 = 8198 := by decide
        go_wp2_with fail
        go_meet
        exact ⟨4, by omega, rfl, by show _ = _; simp [c4b], rfl⟩
      have c4b : (a1 == 4) = false := by simpa using c4
      go_wp2_with fail
      go_meet
      exact ⟨0, by omega, rfl, by show _ = _; simp [c4b], rfl⟩
    · subst hl0
      subst hl
      by_cases c1 : a1 = 1
      · subst c1
        have c4b : ((1 : Int) == 4) = false := by decide
        have bo : bits .andNot .u64 12295 2 = 12293 := by decide
        cases x <;> (go_wp2_with fail; go_meet; exact ⟨1, by omega, rfl, by show _ = _; simp [c4b], rfl⟩)
      have c1b : (a1 == 1) = false := by simpa using c1
      by_cases c2 : a1 = 2
      · subst c2
        have c4b : ((2 : Int) == 4) = false := by decide
        have bo : bits .andNot .u64 12295 4 = 12291 := by decide
        cases u <;> (go_wp2_with fail; go_meet; exact ⟨2, by omega, rfl, by show _ = _; simp [c4b], rfl⟩)
      have c2b : (a1 == 2) = false := by simpa using c2
      by_cases c3 : a1 = 3
      · subst c3
        have c4b : ((3 : Int) == 4) = false := by decide
        have bo : bits .or .u64 12295 9223372036854775808 = 9223372036854788103 := by decide
        cases f <;> (go_wp2_with fail; go_meet; exact ⟨3, by omega, rfl, by show _ = _; simp [c4b], rfl⟩)
      have c3b : (a1 == 3) = false := by simpa using c3
      by_cases c4 : a1 = 4
      · subst c4
        have c4b : ((4 : Int) == 4) = true := by decide
        have bo : bits .andNot .u64 12295 1 = 12294 := by decide
        go_wp2_with fail
        go_meet
        exact ⟨4, by omega, rfl, by show _ = _; simp [c4b], rfl⟩
      have c4b : (a1 == 4) = false := by simpa using c4
      go_wp2_with fail
      go_meet
      exact ⟨0, by omega, rfl, by show _ = _; simp [c4b], rfl⟩
    · subst hl0
      subst hl
      by_cases c1 : a1 = 1
      · subst c1
        have c4b : ((1 : Int) == 4) = false := by decide
        have bo : bits .andNot .u64 16391 2 = 16389 := by decide
        cases x <;> (go_wp2_with fail; go_meet; exact ⟨1, by omega, rfl, by show _ = _; simp [c4b], rfl⟩)
      have c1b : (a1 == 1) = false := by simpa using c1
      by_cases c2 : a1 = 2
      · subst c2
        have c4b : ((2 : Int) == 4) = false := by decide
        have bo : bits .andNot .u64 16391 4 = 16387 := by decide
        cases u <;> (go_wp2_with fail; go_meet; exact ⟨2, by omega, rfl, by show _ = _; simp [c4b], rfl⟩)
      have c2b : (a1 == 2) = false := by simpa using c2
      by_cases c3 : a1 = 3
      · subst c3
        have c4b : ((3 : Int) == 4) = false := by decide
        have bo : bits .or .u64 16391 9223372036854775808 = 9223372036854792199 := by decide
        cases f <;> (go_wp2_with fail; go_meet; exact ⟨3, by omega, rfl, by show _ = _; simp [c4b], rfl⟩)
      have c3b : (a1 == 3) = false := by simpa using c3
      by_cases c4 : a1 = 4
      · subst c4
        have c4b : ((4 : Int) == 4) = true := by decide
        have bo : bits .andNot .u64 16391 1 = 16390 := by decide
        go_wp2_with fail
        go_meet
        exact ⟨4, by omega, rfl, by show _ = _; simp [c4b], rfl⟩
      have c4b : (a1 == 4) = false := by simpa using c4
      go_wp2_with fail
      go_meet
      exact ⟨0, by omega, rfl, by show _ = _; simp [c4b], rfl⟩
  case rest =>
    obtain ⟨b, hb5, rfl, hb4, hwc⟩ := hcut
    clear hl o0 o1 do0 do1
    have nk := narrow_all ⟨l, hl4⟩ ⟨b, hb5⟩ x u f
    unfold NOk at nk
    simp only [Bool.and_eq_true, decide_eq_true_eq] at nk
    obtain ⟨⟨n1, n2⟩, n3⟩ := nk
    have BW : Hid (Below w.heap.size w ((w.alloc (.cells #[.bool x, .bool u, .bool f] 34)).alloc (.cells #[.int .i64 0, .int .i64 0, .int .u64 (XN l b 0), .int .i64 1, .int .i64 0, .int .u64 (XN l b 1), .int .i64 2, .int .i64 0, .int .u64 (XN l b 2), .int .i64 3, .int .i64 0, .int .u64 (XN l b 3)] 60))) := Go.Joins.below_alloc2 _ _ _
    have AB : Hid (Blk ((w.alloc (.cells #[.bool x, .bool u, .bool f] 34)).alloc (.cells #[.int .i64 0, .int .i64 0, .int .u64 (XN l b 0), .int .i64 1, .int .i64 0, .int .u64 (XN l b 1), .int .i64 2, .int .i64 0, .int .u64 (XN l b 2), .int .i64 3, .int .i64 0, .int .u64 (XN l b 3)] 60)) w.heap.size [.bool x, .bool u, .bool f] 34) := (Blk.made w _ _).below (Go.Joins.below_alloc1 _ _)
    have T1 : Hid (Tab ((w.alloc (.cells #[.bool x, .bool u, .bool f] 34)).alloc (.cells #[.int .i64 0, .int .i64 0, .int .u64 (XN l b 0), .int .i64 1, .int .i64 0, .int .u64 (XN l b 1), .int .i64 2, .int .i64 0, .int .u64 (XN l b 2), .int .i64 3, .int .i64 0, .int .u64 (XN l b 3)] 60))) := ht.keep (Go.Joins.below_alloc2 _ _ _)
    obtain ⟨M0, hM0⟩ : ∃ M0, M0 = layM (AN l b) 4 := ⟨_, rfl⟩
    have LY : Hid (Calls Tryd.prog 9 #[.slice (some ⟨w.heap.size + 1, 0, none⟩) 4 4] ((w.alloc (.cells #[.bool x, .bool u, .bool f] 34)).alloc (.cells #[.int .i64 0, .int .i64 0, .int .u64 (XN l b 0), .int .i64 1, .int .i64 0, .int .u64 (XN l b 1), .int .i64 2, .int .i64 0, .int .u64 (XN l b 2), .int .i64 3, .int .i64 0, .int .u64 (XN l b 3)] 60)) fun e w' => ∃ (rb g mb xb : Nat) (K : Nat → Prop) (S : List Nat), e = .returned (.tuple #[.pointer (some ⟨rb, 0, none⟩), .agg #[.int .i64 8, .slice (some ⟨g, 0, none⟩) 1 1, .map (some mb)]]) ∧ Play ((w.alloc (.cells #[.bool x, .bool u, .bool f] 34)).alloc (.cells #[.int .i64 0, .int .i64 0, .int .u64 (XN l b 0), .int .i64 1, .int .i64 0, .int .u64 (XN l b 1), .int .i64 2, .int .i64 0, .int .u64 (XN l b 2), .int .i64 3, .int .i64 0, .int .u64 (XN l b 3)] 60)) w' K S rb 8 [(7, 8)] g 1 mb xb M0 M0 80 320) := by
      rw [hM0]; exact lay_ex _ 4 4 (AN l b) (by have := MX.out; omega) ((w.alloc (.cells #[.bool x, .bool u, .bool f] 34)).alloc (.cells #[.int .i64 0, .int .i64 0, .int .u64 (XN l b 0), .int .i64 1, .int .i64 0, .int .u64 (XN l b 1), .int .i64 2, .int .i64 0, .int .u64 (XN l b 2), .int .i64 3, .int .i64 0, .int .u64 (XN l b 3)] 60)) (putsN w l b hl4 hb5 x u f)
    rw [← hM0] at n1 n2 n3
    clear hM0
    obtain ⟨r1, hr1⟩ : ∃ r1, r1 = walkW Has8 M0 0 123 x u f := ⟨_, rfl⟩
    rw [← hr1] at n1 n2 n3
    obtain ⟨wt, hwt⟩ : ∃ wt, wt = wantN b x u f := ⟨_, rfl⟩
    rw [← hwt] at n1 ⊢
    clear hwt
    have N1 : Hid (r1.er = wt) := n1
    have N2 : Hid _ := n2
    have N3 : Hid _ := n3
    have HR : Hid (r1 = walkW Has8 M0 0 123 x u f) := hr1
    clear n1 n2 n3 hr1
    subst hwc
    generalize ((w.alloc (.cells #[.bool x, .bool u, .bool f] 34)).alloc (.cells #[.int .i64 0, .int .i64 0, .int .u64 (XN l b 0), .int .i64 1, .int .i64 0, .int .u64 (XN l b 1), .int .i64 2, .int .i64 0, .int .u64 (XN l b 2), .int .i64 3, .int .i64 0, .int .u64 (XN l b 3)] 60)) = w1 at BW AB T1 LY ⊢
    go_wp2_with fail
    refine LY.out.mono ?_
    rintro e u1 ⟨rb, g, mb, xb, K, S, rfl, h1⟩
    obtain ⟨K1, k1a, k1b, h9⟩ := h1.box1 (.cells #[.int .i64 8, .slice (some ⟨g, 0, none⟩) 1 1, .map (some mb)] 28)
    have P1 : Hid (Play w1 (u1.alloc (.cells #[.int .i64 8, .slice (some ⟨g, 0, none⟩) 1 1, .map (some mb)] 28)) K1 S rb 8 [(7, 8)] g 1 mb xb M0 M0 80 320) := h9
    have A1 := Blk.below AB.out h1.bel
    have lw : w.heap.size < u1.heap.size := blk_lt A1
    have q0 : u1.cell? ⟨w.heap.size, 0, none⟩ = some (.bool x) := Blk.cell A1 0
    have q1 : u1.cell? ⟨w.heap.size, 1, none⟩ = some (.bool u) := Blk.cell A1 1
    have q2 : u1.cell? ⟨w.heap.size, 2, none⟩ = some (.bool f) := Blk.cell A1 2
    clear LY h1 h9 k1a k1b A1
    have C1 : Calls Tryd.prog 11 #[.pointer (some ⟨rb, 0, none⟩), .int .i64 0, .int .u64 123, .agg #[.bool x, .bool u, .bool f]] (u1.alloc (.cells #[.int .i64 8, .slice (some ⟨g, 0, none⟩) 1 1, .map (some mb)] 28)) fun e w' => e = .returned r1.val ∧ Play w1 w' K1 S rb 8 [(7, 8)] g 1 mb xb r1.M M0 88 320 ∧ Kept K1 (u1.alloc (.cells #[.int .i64 8, .slice (some ⟨g, 0, none⟩) 1 1, .map (some mb)] 28)) w' := by
      rw [HR.out]; exact walk_play P1.out T1.out (by have := MX.out; omega) 0 123 (by omega) (by omega) x u f
    clear HR
    obtain ⟨er1, fa1, fc1, fr1, pw1, pu1, px1, g1, l1, d1, M1⟩ := r1
    have C1 : Hid (Calls Tryd.prog 11 #[.pointer (some ⟨rb, 0, none⟩), .int .i64 0, .int .u64 123, .agg #[.bool x, .bool u, .bool f]] (u1.alloc (.cells #[.int .i64 8, .slice (some ⟨g, 0, none⟩) 1 1, .map (some mb)] 28)) fun e w' => e = .returned (.tuple #[.agg #[.int .i64 fr1, .bool pw1, .bool pu1, .bool px1, .bool g1, .bool l1, .bool d1], .agg #[.int .u64 fa1, .int .i64 fc1], .int .i64 er1]) ∧ Play w1 w' K1 S rb 8 [(7, 8)] g 1 mb xb M1 M0 88 320 ∧ Kept K1 (u1.alloc (.cells #[.int .i64 8, .slice (some ⟨g, 0, none⟩) 1 1, .map (some mb)] 28)) w') := C1
    have n1 := N1.out
    simp only at n1
    subst n1
    have N2 : Hid ((decide (er1 = 0) || (decide (fa1 = 123) && ((bits .and .i64 fc1 1 == 0) == decide (b = 4)))) = true) := N2
    have N3 : Hid ((!decide (er1 = 0) || decide (fr1 = 4)) = true) := N3
    clear P1 N1
    go_wp2_with fail
    refine C1.out.mono ?_
    rintro e u2 ⟨rfl, h2, k2⟩
    have BU : Hid (Below w.heap.size w ((u2.alloc (.cells #[.int .i64 fr1, .bool pw1, .bool pu1, .bool px1, .bool g1, .bool l1, .bool d1] 40)).alloc (.cells #[.int .u64 fa1, .int .i64 fc1] 42))) := below_new (below_new (below_next BW.out h2.bel) _) _
    have F1 : Hid (Blk ((u2.alloc (.cells #[.int .i64 fr1, .bool pw1, .bool pu1, .bool px1, .bool g1, .bool l1, .bool d1] 40)).alloc (.cells #[.int .u64 fa1, .int .i64 fc1] 42)) u2.heap.size [.int .i64 fr1, .bool pw1, .bool pu1, .bool px1, .bool g1, .bool l1, .bool d1] 40) := (made_2 u2 [.int .i64 fr1, .bool pw1, .bool pu1, .bool px1, .bool g1, .bool l1, .bool d1] [.int .u64 fa1, .int .i64 fc1] 40 42).1
    clear C1 h2 k2 q0 q1 q2
    have ee : (er1 != er1) = false := by simp
    by_cases e0 : er1 = 0
    · subst e0
      have f4 := N3.out
      simp only [decide_true, Bool.not_true, Bool.false_or, decide_eq_true_eq] at f4
      subst f4
      clear N2 N3
      go_wp2_with fail
      refine (AW.out _ BU.out).mono ?_
      rintro e u4 ⟨rfl, hb⟩
      have B4 : Hid (Below w.heap.size w u4) := below_next BU.out hb
      have z0 := Blk.cell (Blk.below F1.out hb) 0
      simp only [List.getElem?_cons_zero] at z0
      clear hb F1 BU
      go_wp2_with fail
      go_ret
      exact ⟨rfl, B4.out⟩
    have b0 : (er1 != 0) = true := by simpa using e0
    have f2 := N2.out
    simp only [decide_eq_false e0, Bool.false_or, Bool.and_eq_true, decide_eq_true_eq, beq_iff_eq] at f2
    obtain ⟨ha, hc⟩ := f2
    subst ha
    have hc2 : ((bits .and .i64 fc1 1 == 0) != (a1 == 4)) = false := by rw [hc, hb4.out]; simp
    have hc3 : (bits .and .i64 fc1 1 == 0) = (a1 == 4) := hc.trans hb4.out.symm
    clear N2 N3 hc
    go_wp2_with fail
    refine (AW.out _ BU.out).mono ?_
    rintro e u4 ⟨rfl, hb⟩
    have B4 : Hid (Below w.heap.size w u4) := below_next BU.out hb
    have z0 := Blk.cell (Blk.below F1.out hb) 0
    simp only [List.getElem?_cons_zero] at z0
    clear hb F1 BU
    go_wp2_with fail
    go_ret
    exact ⟨rfl, B4.out⟩

set_option maxRecDepth 100000 in
theorem lifted (os : Os) (started : os.Started) (H : Type) (enc : TypeId × Value → H) :
    ReturnsInHanded {} Tryd.checked os 7 .any (fun w args => (Rows.walkNarrowSpec.pre enc Tryd.prog Tryd.f7 [] false w args ∧ laidMetH Tryd.prog laidL w) ∧ sizedMet enc Tryd.prog Tryd.f7 (OpenSpec.ofChange Rows.walkNarrowSpec) false w args)
      (Rows.walkNarrowSpec.post enc Tryd.prog Tryd.f7 false true false false) := by
  refine returnsInHanded_of_change_and (C := Tryd.checked) (X := fun w _ => laidMetH Tryd.prog laidL w) (fun _ _ _ hh h => h.of_heap hh) own started (by kernel_rfl) Tryd.func7
    (ChangeSpec.witness_shaped (enc := enc) (C := Tryd.checked) (os := os) (X := fun w _ => laidMetH Tryd.prog laidL w) false (World.doorLaid Tryd.prog 400 os) #[.int .i64 0, .int .i64 0, .agg #[.bool false, .bool false, .bool false]] 8 rfl (World.shaped_of_RefB (by kernel_rfl) (by kernel_rfl)) (by kernel_rfl) (by kernel_rfl) (by kernel_rfl) (door_met os _)) ?_
  intro W base args ds gs before hval0 hW _ _ hL _
  have hval : ∀ (j : Nat) t v, Tryd.f7.params[j]? = some t → args[j]? = some v → Value.okWide Tryd.prog W .any base t v := hval0
  have hW' := hW
  obtain ⟨p, q, hA0, hV, hbef, hfz, hnd⟩ := hW
  have hA : DataW.TrodAll enc Tryd.prog W 0 (fun _ => true) true Tryd.f7.params.toList args.toList ds p := hA0
  have hAk := hA
  have hlt : ∀ x ∈ p, x.block < W.heap.size := fun x hx => hW'.lt x (by rw [hbef]; exact List.mem_append_left _ hx)
  rw [Tryd.params7] at hA hval
  obtain ⟨v0, vs0, d0, ds0, p0, q0, hargs, rfl, hp0, h0, r0⟩ := trodAll_cons hA
  obtain ⟨v1, vs1, d1, ds1, p1, q1, rfl, rfl, hp1, h1, r1⟩ := trodAll_cons r0
  obtain ⟨v2, vs2, d2, ds2, p2, q2, rfl, rfl, hp2, h2, r2⟩ := trodAll_cons r1
  obtain ⟨rfl, rfl, hpz⟩ := trodAll_nil r2
  obtain rfl : args = #[v0, v1, v2] := by cases args; simp_all
  obtain ⟨rfl, rfl⟩ := trodVars_none hV
  obtain ⟨a0, rfl, _, _, w0⟩ := open_int Tryd.underlying3 (hval 0 3 v0 rfl rfl) h0
  obtain ⟨a1, rfl, _, _, w1⟩ := open_int Tryd.underlying3 (hval 1 3 v1 rfl rfl) h1
  obtain ⟨s2, rfl, _⟩ := open_ac3 (hval 2 34 v2 rfl rfl) h2
  clear hA0 hval0
  refine (walk a0 w0 a1 w1 s2 W (of_laid hL) ).mono fun e W' ⟨he, hg⟩ => ?_
  subst he
  exact ⟨_, rfl, ⟨_, _, _, [], p, [], hW', (trodAll_cons_mk (shut_bool Tryd.underlying4 _) trodAll_mk0), args_stay laidOut hg (by kernel_rfl) hAk hlt, rfl, hg.frame _, fun h => by cases h⟩⟩

theorem over : Rows.walkNarrowRow.holds Tryd.pinned (OpenSpec.ofChange Rows.walkNarrowSpec) :=
  OpenClaim.holds_of_wide 7 Tryd.f7 rfl rfl rfl rfl rfl rfl rfl ⟨rfl, rfl, rfl, rfl, rfl⟩ rfl rfl rfl rfl rfl (by kernel_rfl) Tryd.func7 (by kernel_rfl)
    (of_decide_eq_true (by kernel_rfl)) (by unfold Func.isWrapper; first | (rw [if_pos (by decide +kernel)]; kernel_rfl) | (rw [if_neg (by decide +kernel)]; exact ⟨rfl, rfl⟩))
    (fun os started H enc _ => lifted os started H enc)

theorem proved : Rows.WalkNarrowCardSaid :=
  Claim7.holds_tied_plain_at .later [] [.data] true (true, "2a6e59ec9e225d64675e460dcd5b1b0b3cd5b025de7b313b17a7fe5eb85b0249") true
    over (fun _ h => by cases h) (by kernel_rfl) (fun _ h => by cases h) walkNarrow_row_tie rfl ⟨rfl, rfl⟩ (by kernel_rfl) rfl
    (fun f fn hf hfn => by
      obtain rfl : f = 7 := Option.some.inj ((show Tryd.prog.funcNamed "demesne/demesnelaw04.WalkNarrow" = some 7 by kernel_rfl).symm.trans hf) |>.symm
      obtain rfl : fn = Tryd.f7 := (Option.some.inj (Tryd.func7.symm.trans hfn)).symm
      exact ⟨by kernel_rfl, fun j t ht => by
        rw [Tryd.params7] at ht
        have hm : t ∈ [3, 3, 34] := by simpa using Array.mem_of_getElem? ht
        have hall : ([3, 3, 34].all fun u => !Tryd.prog.wantsStandIn u) = true := by kernel_rfl
        exact (show Tryd.prog.wantsStandIn t = false by simpa using List.all_eq_true.1 hall t hm)⟩)
    (by kernel_rfl)
#print axioms proved
end Go.Proofs.YtkbkikbcpllknaaDoor.walkNarrow
