/- For any calls, any tag and pages: behind any 60 calls and a page's, a tag's or all lines' end none of them is found, and others are; no condition. -/
import Derived.Test.YtbknofopjkdbnaaRows
import Derived.ProofKit
import Derived.OpenShut
import Derived.Carry
import Derived.Test.YtbknofopjkdbnaaU4
namespace Go.Proofs.Ytbknofopjkdbnaa.tlbGone
open Go.ChangeShapes Go.WideShapes Go.ChangeAt Go.RowKit Go.Maps
set_option linter.unusedSimpArgs false
set_option linter.unusedVariables false
/-- four stores of their own, made behind w -/
def Own4 (w W : World) (A B C D : Nat → Ln) : Prop := IsTlb W w.heap.size A ∧ IsTlb W (w.heap.size + 1) B ∧ IsTlb W (w.heap.size + 1 + 1) C ∧ IsTlb W (w.heap.size + 1 + 1 + 1) D ∧ Below w.heap.size w W
theorem below_up {w W W' : World} {b : Nat} (h : Below w.heap.size w W) (hg : W.grownBy W' (some b)) (hb : w.heap.size ≤ b) : Below w.heap.size w W' :=
  h.trans ⟨hg.os, hg.tape, hg.output, hg.size, fun k hk => hg.block k (Nat.lt_of_lt_of_le hk h.size) (fun e => by have := Option.some.inj e; omega)⟩
theorem Own4.n0 {w W W' : World} {A B C D A' : Nat → Ln} (h : Own4 w W A B C D) (hT : IsTlb W' w.heap.size A') (hg : W.grownBy W' (some w.heap.size)) : Own4 w W' A' B C D :=
  ⟨hT, h.2.1.grown hg (by omega), h.2.2.1.grown hg (by omega), h.2.2.2.1.grown hg (by omega), below_up h.2.2.2.2 hg (by omega)⟩
theorem Own4.n1 {w W W' : World} {A B C D B' : Nat → Ln} (h : Own4 w W A B C D) (hT : IsTlb W' (w.heap.size + 1) B') (hg : W.grownBy W' (some (w.heap.size + 1))) : Own4 w W' A B' C D :=
  ⟨h.1.grown hg (by omega), hT, h.2.2.1.grown hg (by omega), h.2.2.2.1.grown hg (by omega), below_up h.2.2.2.2 hg (by omega)⟩
theorem Own4.n2 {w W W' : World} {A B C D C' : Nat → Ln} (h : Own4 w W A B C D) (hT : IsTlb W' (w.heap.size + 1 + 1) C') (hg : W.grownBy W' (some (w.heap.size + 1 + 1))) : Own4 w W' A B C' D :=
  ⟨h.1.grown hg (by omega), h.2.1.grown hg (by omega), hT, h.2.2.2.1.grown hg (by omega), below_up h.2.2.2.2 hg (by omega)⟩
theorem Own4.n3 {w W W' : World} {A B C D D' : Nat → Ln} (h : Own4 w W A B C D) (hT : IsTlb W' (w.heap.size + 1 + 1 + 1) D') (hg : W.grownBy W' (some (w.heap.size + 1 + 1 + 1))) : Own4 w W' A B C D' :=
  ⟨h.1.grown hg (by omega), h.2.1.grown hg (by omega), h.2.2.1.grown hg (by omega), hT, below_up h.2.2.2.2 hg (by omega)⟩
theorem Own4.grow {w W W' : World} {A B C D : Nat → Ln} (h : Own4 w W A B C D) (hb : Below W.heap.size W W') : Own4 w W' A B C D := ⟨h.1.below hb, h.2.1.below hb, h.2.2.1.below hb, h.2.2.2.1.below hb, below_then h.2.2.2.2 hb⟩
theorem own4_made (w : World) (Zs : Array Value) (hs : Zs.size = 144) (hz : ∀ q r, q < 16 → r < 9 → Zs[q * 9 + r]? = Ln.zero.enc[r]?) : Own4 w ((((w.alloc (.cells Zs 30)).alloc (.cells Zs 30)).alloc (.cells Zs 30)).alloc (.cells Zs 30)) T0 T0 T0 T0 := by
  have a0 := IsTlb.made w Zs hs hz
  have a1 := IsTlb.made (w.alloc (.cells Zs 30)) Zs hs hz
  have a2 := IsTlb.made ((w.alloc (.cells Zs 30)).alloc (.cells Zs 30)) Zs hs hz
  have a3 := IsTlb.made (((w.alloc (.cells Zs 30)).alloc (.cells Zs 30)).alloc (.cells Zs 30)) Zs hs hz
  rw [World.size_alloc] at a1
  rw [World.size_alloc, World.size_alloc] at a2
  rw [World.size_alloc, World.size_alloc, World.size_alloc] at a3
  exact ⟨((a0.below (Go.Joins.below_alloc1 _ _)).below (Go.Joins.below_alloc1 _ _)).below (Go.Joins.below_alloc1 _ _), (a1.below (Go.Joins.below_alloc1 _ _)).below (Go.Joins.below_alloc1 _ _), a2.below (Go.Joins.below_alloc1 _ _), a3, (((Below.refl _ w).alloc (Nat.le_refl _) _).alloc (by simp) _ |>.alloc (by simp; omega) _ |>.alloc (by simp; omega) _)⟩
/-- a line that stays is found as before -/
theorem drop_fits (T : Nat → Ln) (f : Ln → Bool) (tag page : Int) (i : Nat) (hi : i < 16) : (dropT T f 16 i).fits tag page = ((T i).fits tag page && !(f (T i))) := by
  unfold dropT
  rw [if_pos hi]
  by_cases c : f (T i) = true
  · rw [if_pos c, c]; simp [Ln.fits, Ln.zero]
  · have c' : f (T i) = false := by simpa using c
    rw [if_neg c, c']; simp
/-- what is found behind an end -/
theorem find_drop {T : Nat → Ln} (g : GoodL T) (f : Ln → Bool) (tag page : Int) : findT (dropT T f 16) tag page = if (findT T tag page).2 && !(f (findT T tag page).1) then findT T tag page else (Ln.zero, false) := by
  rcases find_cases g tag page with ⟨i, a, b, c⟩ | ⟨a, c⟩
  · rw [c]
    by_cases d : f (T i) = true
    · rw [if_neg (by simp [d])]
      refine find_no tag page (fun j hj => ?_)
      rw [drop_fits T f tag page j hj]
      by_cases e : (T j).fits tag page = true
      · have := fits_one g tag page i j a hj b e
        subst this
        rw [d]; simp
      · have e' : (T j).fits tag page = false := by simpa using e
        rw [e']; rfl
    · have d' : f (T i) = false := by simpa using d
      rw [if_pos (by simp [d'])]
      have k : (dropT T f 16 i).fits tag page = true := by rw [drop_fits T f tag page i a, b, d']; rfl
      rw [find_yes (g.drop f) tag page i a k]
      have : dropT T f 16 i = T i := by unfold dropT; rw [if_pos a, if_neg d]
      rw [this]
  · rw [c]
    rw [if_neg (by simp)]
    refine find_no tag page (fun j hj => ?_)
    rw [drop_fits T f tag page j hj, a j hj]; rfl
theorem find_fits {T : Nat → Ln} (g : GoodL T) (tag page : Int) (h : (findT T tag page).2 = true) : (findT T tag page).1.fits tag page = true := by
  rcases find_cases g tag page with ⟨i, a, b, c⟩ | ⟨a, c⟩
  · rw [c]; exact b
  · rw [c] at h; simp at h
theorem lines_none (T : Nat → Ln) : ∀ n, (∀ i, i < n → (T i).v = false) → linesT T n = []
  | 0, _ => rfl
  | n + 1, h => by rw [linesT, lines_none T n (fun i hi => h i (by omega)), if_neg (by rw [h n (by omega)]; simp)]; rfl
theorem all_gone (T : Nat → Ln) : linesT (dropT T (fun l => !false || !l.g) 16) 16 = [] := lines_none _ 16 (fun i hi => by unfold dropT; rw [if_pos hi]; rfl)

set_option maxRecDepth 8000 in
set_option maxHeartbeats 16000000 in
theorem walk (p0 : Option Addr) (n0 c0 : Nat) (K0 A0 C0 : Nat → Int) (L0 : Nat → Ln) (m0 : n0 ≤ maxLen) (a1 : Int) (w1 : (Lit.int .i64 a1).wf = true) (a2 : Int) (w2 : (Lit.int .i64 a2).wf = true) (a3 : Int) (w3 : (Lit.int .i64 a3).wf = true) (w : World) (H0 : IsActs w p0 n0 K0 A0 C0 L0) :
    Calls Try.prog 5 #[.slice p0 n0 c0, .int .i64 a1, .int .i64 a2, .int .i64 a3] w fun e w' => e = .returned (.bool true) ∧ Below w.heap.size w w' := by
  have AW : Hid (∀ W : World, Calls Try.prog 9 #[] W fun e w' => e = .returned (.bool true) ∧ Below W.heap.size W w') := fun W => awake_any W
  obtain ⟨Zs, hz, hs, hzz⟩ := zero30
  have M0 : Hid (Own4 w ((((w.alloc (.cells Zs 30)).alloc (.cells Zs 30)).alloc (.cells Zs 30)).alloc (.cells Zs 30)) T0 T0 T0 T0) := own4_made w Zs hs hzz
  have D0 : Hid (∀ (T : Nat → Ln) (k a c : Int) (v : Bool) (t p f : Int) (lw lu lx g d : Bool) (W : World), IsTlb W w.heap.size T → Calls Try.prog 10 #[.pointer (some ⟨w.heap.size, 0, none⟩), .slice none 0 0, .agg #[.int .i64 k, .int .i64 a, .int .i64 c, .bool v, .int .i64 t, .int .i64 p, .int .i64 f, .bool lw, .bool lu, .bool lx, .bool g, .bool d]] W fun e w' => (∃ r, e = .returned r) ∧ IsTlb w' w.heap.size (doesL T k a c ⟨v, t, p, f, lw, lu, lx, g, d⟩) ∧ W.grownBy w' (some w.heap.size)) := fun T k a c v t p f lw lu lx g d W h => does_any w.heap.size T k a c v t p f lw lu lx g d W h
  have D1 : Hid (∀ (T : Nat → Ln) (k a c : Int) (v : Bool) (t p f : Int) (lw lu lx g d : Bool) (W : World), IsTlb W (w.heap.size + 1) T → Calls Try.prog 10 #[.pointer (some ⟨(w.heap.size + 1), 0, none⟩), .slice none 0 0, .agg #[.int .i64 k, .int .i64 a, .int .i64 c, .bool v, .int .i64 t, .int .i64 p, .int .i64 f, .bool lw, .bool lu, .bool lx, .bool g, .bool d]] W fun e w' => (∃ r, e = .returned r) ∧ IsTlb w' (w.heap.size + 1) (doesL T k a c ⟨v, t, p, f, lw, lu, lx, g, d⟩) ∧ W.grownBy w' (some (w.heap.size + 1))) := fun T k a c v t p f lw lu lx g d W h => does_any (w.heap.size + 1) T k a c v t p f lw lu lx g d W h
  have D2 : Hid (∀ (T : Nat → Ln) (k a c : Int) (v : Bool) (t p f : Int) (lw lu lx g d : Bool) (W : World), IsTlb W (w.heap.size + 1 + 1) T → Calls Try.prog 10 #[.pointer (some ⟨(w.heap.size + 1 + 1), 0, none⟩), .slice none 0 0, .agg #[.int .i64 k, .int .i64 a, .int .i64 c, .bool v, .int .i64 t, .int .i64 p, .int .i64 f, .bool lw, .bool lu, .bool lx, .bool g, .bool d]] W fun e w' => (∃ r, e = .returned r) ∧ IsTlb w' (w.heap.size + 1 + 1) (doesL T k a c ⟨v, t, p, f, lw, lu, lx, g, d⟩) ∧ W.grownBy w' (some (w.heap.size + 1 + 1))) := fun T k a c v t p f lw lu lx g d W h => does_any (w.heap.size + 1 + 1) T k a c v t p f lw lu lx g d W h
  have D3 : Hid (∀ (T : Nat → Ln) (k a c : Int) (v : Bool) (t p f : Int) (lw lu lx g d : Bool) (W : World), IsTlb W (w.heap.size + 1 + 1 + 1) T → Calls Try.prog 10 #[.pointer (some ⟨(w.heap.size + 1 + 1 + 1), 0, none⟩), .slice none 0 0, .agg #[.int .i64 k, .int .i64 a, .int .i64 c, .bool v, .int .i64 t, .int .i64 p, .int .i64 f, .bool lw, .bool lu, .bool lx, .bool g, .bool d]] W fun e w' => (∃ r, e = .returned r) ∧ IsTlb w' (w.heap.size + 1 + 1 + 1) (doesL T k a c ⟨v, t, p, f, lw, lu, lx, g, d⟩) ∧ W.grownBy w' (some (w.heap.size + 1 + 1 + 1))) := fun T k a c v t p f lw lu lx g d W h => does_any (w.heap.size + 1 + 1 + 1) T k a c v t p f lw lu lx g d W h
  have HA : Hid (IsActs w p0 n0 K0 A0 C0 L0) := H0
  clear H0 hs hzz
  have mm : (n0 : Int) ≤ 9223372036854775807 := by have : maxLen ≤ 9223372036854775807 := by decide +kernel
                                                   omega
  go_enter Try.func5, Try.ntmps5
  go_wp2_with fail
  go_loopw [13] (fun x W => ∃ (k : Nat) (T : Nat → Ln), k ≤ n0 ∧ k ≤ 60 ∧ x = .int .i64 k ∧ Hid (Own4 w W T T T T) ∧ Hid (GoodL T)) (fun x _ => 60 - (intOf x).toNat)
  case atStart => exact ⟨0, _, by omega, by omega, rfl, M0, good_zero⟩
  case round =>
    obtain ⟨k, T, hk, hk6, rfl, hM, hG⟩ := hrel
    by_cases hlt : k < n0 ∧ k < 60
    · have hd : decide ((k : Int) < (n0 : Int)) = true := by simp; omega
      have hd2 : decide ((k : Int) < 60) = true := by simp; omega
      have hA0 := HA.out k hlt.1
      obtain ⟨b, o, rfl, lbw, rgw⟩ := hA0
      generalize K0 k = ak at rgw
      generalize A0 k = aa at rgw
      generalize C0 k = ac at rgw
      generalize L0 k = ln at rgw
      have RW : Hid (w.rangeAt b (o + k * 12) ([.int .i64 ak, .int .i64 aa, .int .i64 ac] ++ ln.enc)) := rgw
      clear rgw
      obtain ⟨lv, lt, lp, lf, lw, lu, lx, lg, ld⟩ := ln
      have lb : b < wr.heap.size := Nat.lt_of_lt_of_le lbw hM.out.2.2.2.2.size
      have rg := range_below RW.out lbw hM.out.2.2.2.2
      have z0 : wr.cell? ⟨b, o + k * 12, none⟩ = some (.int .i64 ak) := rg 0 _ rfl
      have z1 : wr.cell? ⟨b, o + k * 12 + 1, none⟩ = some (.int .i64 aa) := rg 1 _ rfl
      have z2 : wr.cell? ⟨b, o + k * 12 + 2, none⟩ = some (.int .i64 ac) := rg 2 _ rfl
      have z3 : wr.cell? ⟨b, o + k * 12 + 3, none⟩ = some (.bool lv) := rg 3 _ rfl
      have z4 : wr.cell? ⟨b, o + k * 12 + 4, none⟩ = some (.int .i64 lt) := rg 4 _ rfl
      have z5 : wr.cell? ⟨b, o + k * 12 + 5, none⟩ = some (.int .i64 lp) := rg 5 _ rfl
      have z6 : wr.cell? ⟨b, o + k * 12 + 6, none⟩ = some (.int .i64 lf) := rg 6 _ rfl
      have z7 : wr.cell? ⟨b, o + k * 12 + 7, none⟩ = some (.bool lw) := rg 7 _ rfl
      have z8 : wr.cell? ⟨b, o + k * 12 + 8, none⟩ = some (.bool lu) := rg 8 _ rfl
      have z9 : wr.cell? ⟨b, o + k * 12 + 9, none⟩ = some (.bool lx) := rg 9 _ rfl
      have z10 : wr.cell? ⟨b, o + k * 12 + 10, none⟩ = some (.bool lg) := rg 10 _ rfl
      have z11 : wr.cell? ⟨b, o + k * 12 + 11, none⟩ = some (.bool ld) := rg 11 _ rfl
      clear rg
      go_wp2_with fail
      refine (D0.out T ak aa ac lv lt lp lf lw lu lx lg ld _ hM.out.1).mono ?_
      rintro e u1 ⟨⟨v, rfl⟩, h1, h2⟩
      have M1 : Hid (Own4 w u1 (doesL T ak aa ac ⟨lv, lt, lp, lf, lw, lu, lx, lg, ld⟩) T T T) := hM.out.n0 h1 h2
      clear h1 h2 lb z0 z1 z2 z3 z4 z5 z6 z7 z8 z9 z10 z11
      have lb : b < u1.heap.size := Nat.lt_of_lt_of_le lbw M1.out.2.2.2.2.size
      have rg := range_below RW.out lbw M1.out.2.2.2.2
      have z0 : u1.cell? ⟨b, o + k * 12, none⟩ = some (.int .i64 ak) := rg 0 _ rfl
      have z1 : u1.cell? ⟨b, o + k * 12 + 1, none⟩ = some (.int .i64 aa) := rg 1 _ rfl
      have z2 : u1.cell? ⟨b, o + k * 12 + 2, none⟩ = some (.int .i64 ac) := rg 2 _ rfl
      have z3 : u1.cell? ⟨b, o + k * 12 + 3, none⟩ = some (.bool lv) := rg 3 _ rfl
      have z4 : u1.cell? ⟨b, o + k * 12 + 4, none⟩ = some (.int .i64 lt) := rg 4 _ rfl
      have z5 : u1.cell? ⟨b, o + k * 12 + 5, none⟩ = some (.int .i64 lp) := rg 5 _ rfl
      have z6 : u1.cell? ⟨b, o + k * 12 + 6, none⟩ = some (.int .i64 lf) := rg 6 _ rfl
      have z7 : u1.cell? ⟨b, o + k * 12 + 7, none⟩ = some (.bool lw) := rg 7 _ rfl
      have z8 : u1.cell? ⟨b, o + k * 12 + 8, none⟩ = some (.bool lu) := rg 8 _ rfl
      have z9 : u1.cell? ⟨b, o + k * 12 + 9, none⟩ = some (.bool lx) := rg 9 _ rfl
      have z10 : u1.cell? ⟨b, o + k * 12 + 10, none⟩ = some (.bool lg) := rg 10 _ rfl
      have z11 : u1.cell? ⟨b, o + k * 12 + 11, none⟩ = some (.bool ld) := rg 11 _ rfl
      clear rg
      go_wp2_with fail
      refine (D1.out T ak aa ac lv lt lp lf lw lu lx lg ld _ M1.out.2.1).mono ?_
      rintro e u2 ⟨⟨v, rfl⟩, h1, h2⟩
      have M2 : Hid (Own4 w u2 (doesL T ak aa ac ⟨lv, lt, lp, lf, lw, lu, lx, lg, ld⟩) (doesL T ak aa ac ⟨lv, lt, lp, lf, lw, lu, lx, lg, ld⟩) T T) := M1.out.n1 h1 h2
      clear h1 h2 lb z0 z1 z2 z3 z4 z5 z6 z7 z8 z9 z10 z11
      have lb : b < u2.heap.size := Nat.lt_of_lt_of_le lbw M2.out.2.2.2.2.size
      have rg := range_below RW.out lbw M2.out.2.2.2.2
      have z0 : u2.cell? ⟨b, o + k * 12, none⟩ = some (.int .i64 ak) := rg 0 _ rfl
      have z1 : u2.cell? ⟨b, o + k * 12 + 1, none⟩ = some (.int .i64 aa) := rg 1 _ rfl
      have z2 : u2.cell? ⟨b, o + k * 12 + 2, none⟩ = some (.int .i64 ac) := rg 2 _ rfl
      have z3 : u2.cell? ⟨b, o + k * 12 + 3, none⟩ = some (.bool lv) := rg 3 _ rfl
      have z4 : u2.cell? ⟨b, o + k * 12 + 4, none⟩ = some (.int .i64 lt) := rg 4 _ rfl
      have z5 : u2.cell? ⟨b, o + k * 12 + 5, none⟩ = some (.int .i64 lp) := rg 5 _ rfl
      have z6 : u2.cell? ⟨b, o + k * 12 + 6, none⟩ = some (.int .i64 lf) := rg 6 _ rfl
      have z7 : u2.cell? ⟨b, o + k * 12 + 7, none⟩ = some (.bool lw) := rg 7 _ rfl
      have z8 : u2.cell? ⟨b, o + k * 12 + 8, none⟩ = some (.bool lu) := rg 8 _ rfl
      have z9 : u2.cell? ⟨b, o + k * 12 + 9, none⟩ = some (.bool lx) := rg 9 _ rfl
      have z10 : u2.cell? ⟨b, o + k * 12 + 10, none⟩ = some (.bool lg) := rg 10 _ rfl
      have z11 : u2.cell? ⟨b, o + k * 12 + 11, none⟩ = some (.bool ld) := rg 11 _ rfl
      clear rg
      go_wp2_with fail
      refine (D2.out T ak aa ac lv lt lp lf lw lu lx lg ld _ M2.out.2.2.1).mono ?_
      rintro e u3 ⟨⟨v, rfl⟩, h1, h2⟩
      have M3 : Hid (Own4 w u3 (doesL T ak aa ac ⟨lv, lt, lp, lf, lw, lu, lx, lg, ld⟩) (doesL T ak aa ac ⟨lv, lt, lp, lf, lw, lu, lx, lg, ld⟩) (doesL T ak aa ac ⟨lv, lt, lp, lf, lw, lu, lx, lg, ld⟩) T) := M2.out.n2 h1 h2
      clear h1 h2 lb z0 z1 z2 z3 z4 z5 z6 z7 z8 z9 z10 z11
      have lb : b < u3.heap.size := Nat.lt_of_lt_of_le lbw M3.out.2.2.2.2.size
      have rg := range_below RW.out lbw M3.out.2.2.2.2
      have z0 : u3.cell? ⟨b, o + k * 12, none⟩ = some (.int .i64 ak) := rg 0 _ rfl
      have z1 : u3.cell? ⟨b, o + k * 12 + 1, none⟩ = some (.int .i64 aa) := rg 1 _ rfl
      have z2 : u3.cell? ⟨b, o + k * 12 + 2, none⟩ = some (.int .i64 ac) := rg 2 _ rfl
      have z3 : u3.cell? ⟨b, o + k * 12 + 3, none⟩ = some (.bool lv) := rg 3 _ rfl
      have z4 : u3.cell? ⟨b, o + k * 12 + 4, none⟩ = some (.int .i64 lt) := rg 4 _ rfl
      have z5 : u3.cell? ⟨b, o + k * 12 + 5, none⟩ = some (.int .i64 lp) := rg 5 _ rfl
      have z6 : u3.cell? ⟨b, o + k * 12 + 6, none⟩ = some (.int .i64 lf) := rg 6 _ rfl
      have z7 : u3.cell? ⟨b, o + k * 12 + 7, none⟩ = some (.bool lw) := rg 7 _ rfl
      have z8 : u3.cell? ⟨b, o + k * 12 + 8, none⟩ = some (.bool lu) := rg 8 _ rfl
      have z9 : u3.cell? ⟨b, o + k * 12 + 9, none⟩ = some (.bool lx) := rg 9 _ rfl
      have z10 : u3.cell? ⟨b, o + k * 12 + 10, none⟩ = some (.bool lg) := rg 10 _ rfl
      have z11 : u3.cell? ⟨b, o + k * 12 + 11, none⟩ = some (.bool ld) := rg 11 _ rfl
      clear rg
      go_wp2_with fail
      refine (D3.out T ak aa ac lv lt lp lf lw lu lx lg ld _ M3.out.2.2.2.1).mono ?_
      rintro e u4 ⟨⟨v, rfl⟩, h1, h2⟩
      have M4 : Hid (Own4 w u4 (doesL T ak aa ac ⟨lv, lt, lp, lf, lw, lu, lx, lg, ld⟩) (doesL T ak aa ac ⟨lv, lt, lp, lf, lw, lu, lx, lg, ld⟩) (doesL T ak aa ac ⟨lv, lt, lp, lf, lw, lu, lx, lg, ld⟩) (doesL T ak aa ac ⟨lv, lt, lp, lf, lw, lu, lx, lg, ld⟩)) := M3.out.n3 h1 h2
      clear h1 h2 lb z0 z1 z2 z3 z4 z5 z6 z7 z8 z9 z10 z11
      have G1 : Hid (GoodL (doesL T ak aa ac ⟨lv, lt, lp, lf, lw, lu, lx, lg, ld⟩)) := hG.out.does _ _ _ _
      go_wp2_with fail
      go_roundw
      case rel => exact ⟨k + 1, _, by omega, by omega, by go_num, M4, G1⟩
      case measure => simp [intOf]; omega
    · clear D0 D1 D2 D3 HA
      have PG : Hid (∀ W : World, IsTlb W (w.heap.size + 1) T → Calls Try.prog 15 #[.pointer (some ⟨(w.heap.size + 1), 0, none⟩), .int .i64 a1, .int .i64 a2] W fun e w' => e = .returned (.tuple #[]) ∧ IsTlb w' (w.heap.size + 1) (dropT T (fun l => l.fits a1 a2) 16) ∧ W.grownBy w' (some (w.heap.size + 1))) := fun W h => page_any (w.heap.size + 1) T a1 a2 W h
      have TA : Hid (∀ W : World, IsTlb W (w.heap.size + 1 + 1) T → Calls Try.prog 16 #[.pointer (some ⟨(w.heap.size + 1 + 1), 0, none⟩), .int .i64 a1] W fun e w' => e = .returned (.tuple #[]) ∧ IsTlb w' (w.heap.size + 1 + 1) (dropT T (fun l => l.t == a1 && !l.g) 16) ∧ W.grownBy w' (some (w.heap.size + 1 + 1))) := fun W h => tag_any (w.heap.size + 1 + 1) T a1 W h
      have AL : Hid (∀ W : World, IsTlb W (w.heap.size + 1 + 1 + 1) T → Calls Try.prog 17 #[.pointer (some ⟨(w.heap.size + 1 + 1 + 1), 0, none⟩), .bool true] W fun e w' => e = .returned (.tuple #[]) ∧ IsTlb w' (w.heap.size + 1 + 1 + 1) (dropT T (fun l => !true || !l.g) 16) ∧ W.grownBy w' (some (w.heap.size + 1 + 1 + 1))) := fun W h => all_any (w.heap.size + 1 + 1 + 1) T true W h
      have AX : Hid (∀ W : World, IsTlb W w.heap.size T → Calls Try.prog 17 #[.pointer (some ⟨w.heap.size, 0, none⟩), .bool false] W fun e w' => e = .returned (.tuple #[]) ∧ IsTlb w' w.heap.size (dropT T (fun l => !false || !l.g) 16) ∧ W.grownBy w' (some w.heap.size)) := fun W h => all_any w.heap.size T false W h
      have LN : Hid (∀ W : World, IsTlb W w.heap.size (dropT T (fun l => !false || !l.g) 16) → Calls Try.prog 11 #[.pointer (some ⟨w.heap.size, 0, none⟩)] W fun e w' => (∃ p c, e = .returned (.slice p 0 c)) ∧ Below W.heap.size W w') := fun W h => (lines_call w.heap.size _ W h).mono fun e w' ⟨⟨p, c, h1, _⟩, h3⟩ => ⟨⟨p, c, by rw [h1, all_gone]; rfl⟩, h3⟩
      have rA : (if (findT T a1 a2).2 && !((findT T a1 a2).1.fits a1 a2) then findT T a1 a2 else (Ln.zero, false)) = (Ln.zero, false) := by
        by_cases c : (findT T a1 a2).2 = true
        · rw [find_fits hG.out a1 a2 c]; simp
        · have c' : (findT T a1 a2).2 = false := by simpa using c
          rw [c']; simp
      have rZ := find_fits hG.out a1 a3
      rcases hz3 : findT T a1 a3 with ⟨⟨zv, zt, zp, zf, zw, zu, zx, zg, zd⟩, d⟩
      rw [hz3] at rZ
      simp only at rZ
      cases d
      · have hz0 : findT T a1 a3 = (Ln.zero, false) := by
          rcases find_cases hG.out a1 a3 with ⟨i, _, _, c⟩ | ⟨_, c⟩
          · rw [hz3] at c; simp at c
          · exact c
        clear hz3 rZ
        have eb : (a3 == a2) = true ∨ (a3 == a2) = false := by cases (a3 == a2) <;> simp
        rcases eb with eb | eb
        · skip
          have FA : Hid (∀ W : World, IsTlb W (w.heap.size + 1) (dropT T (fun l => l.fits a1 a2) 16) → Calls Try.prog 13 #[.pointer (some ⟨(w.heap.size + 1), 0, none⟩), .int .i64 a1, .int .i64 a2] W fun e w' => e = .returned (.tuple #[.agg #[.bool false, .int .i64 0, .int .i64 0, .int .i64 0, .bool false, .bool false, .bool false, .bool false, .bool false], .bool false]) ∧ Below W.heap.size W w') := fun W h => by
            have := find_any (w.heap.size + 1) (dropT T (fun l => l.fits a1 a2) 16) a1 a2 W h
            rw [find_drop hG.out, rA] at this; exact this
          have FB : Hid (∀ W : World, IsTlb W (w.heap.size + 1 + 1) (dropT T (fun l => l.t == a1 && !l.g) 16) → Calls Try.prog 13 #[.pointer (some ⟨(w.heap.size + 1 + 1), 0, none⟩), .int .i64 a1, .int .i64 a3] W fun e w' => e = .returned (.tuple #[.agg #[.bool false, .int .i64 0, .int .i64 0, .int .i64 0, .bool false, .bool false, .bool false, .bool false, .bool false], .bool false]) ∧ Below W.heap.size W w') := fun W h => by
            have := find_any (w.heap.size + 1 + 1) (dropT T (fun l => l.t == a1 && !l.g) 16) a1 a3 W h
            rw [find_drop hG.out, hz0, if_neg (by simp)] at this; exact this
          have FC : Hid (∀ W : World, IsTlb W (w.heap.size + 1 + 1 + 1) (dropT T (fun l => !true || !l.g) 16) → Calls Try.prog 13 #[.pointer (some ⟨(w.heap.size + 1 + 1 + 1), 0, none⟩), .int .i64 a1, .int .i64 a3] W fun e w' => e = .returned (.tuple #[.agg #[.bool false, .int .i64 0, .int .i64 0, .int .i64 0, .bool false, .bool false, .bool false, .bool false, .bool false], .bool false]) ∧ Below W.heap.size W w') := fun W h => by
            have := find_any (w.heap.size + 1 + 1 + 1) (dropT T (fun l => !true || !l.g) 16) a1 a3 W h
            rw [find_drop hG.out, hz0, if_neg (by simp)] at this; exact this
          have FZ : Hid (∀ W : World, IsTlb W w.heap.size (T) → Calls Try.prog 13 #[.pointer (some ⟨w.heap.size, 0, none⟩), .int .i64 a1, .int .i64 a3] W fun e w' => e = .returned (.tuple #[.agg #[.bool false, .int .i64 0, .int .i64 0, .int .i64 0, .bool false, .bool false, .bool false, .bool false, .bool false], .bool false]) ∧ Below W.heap.size W w') := fun W h => by
            have := find_any w.heap.size (T) a1 a3 W h
            rw [hz0] at this; exact this
          have FK : Hid (∀ W : World, IsTlb W (w.heap.size + 1) (dropT T (fun l => l.fits a1 a2) 16) → Calls Try.prog 13 #[.pointer (some ⟨(w.heap.size + 1), 0, none⟩), .int .i64 a1, .int .i64 a3] W fun e w' => e = .returned (.tuple #[.agg #[.bool false, .int .i64 0, .int .i64 0, .int .i64 0, .bool false, .bool false, .bool false, .bool false, .bool false], .bool false]) ∧ Below W.heap.size W w') := fun W h => by
            have := find_any (w.heap.size + 1) (dropT T (fun l => l.fits a1 a2) 16) a1 a3 W h
            rw [find_drop hG.out, hz0, if_neg (by simp)] at this; exact this
          have FF : Hid (∀ W : World, IsTlb W (w.heap.size + 1 + 1) (dropT T (fun l => l.t == a1 && !l.g) 16) → Calls Try.prog 13 #[.pointer (some ⟨(w.heap.size + 1 + 1), 0, none⟩), .int .i64 a1, .int .i64 a3] W fun e w' => e = .returned (.tuple #[.agg #[.bool false, .int .i64 0, .int .i64 0, .int .i64 0, .bool false, .bool false, .bool false, .bool false, .bool false], .bool false]) ∧ Below W.heap.size W w') := fun W h => by
            have := find_any (w.heap.size + 1 + 1) (dropT T (fun l => l.t == a1 && !l.g) 16) a1 a3 W h
            rw [find_drop hG.out, hz0, if_neg (by simp)] at this; exact this
          clear hG
          by_cases hq : k < n0
          · have hd : decide ((k : Int) < (n0 : Int)) = true := by simp; omega
            have hd2 : decide ((k : Int) < 60) = false := by simp; omega
            go_wp2_with fail
            refine (PG.out _ hM.out.2.1).mono ?_
            rintro e u1 ⟨rfl, h1, h2⟩
            have M1 : Hid (Own4 w u1 T (dropT T (fun l => l.fits a1 a2) 16) T T) := hM.out.n1 h1 h2
            clear h1 h2
            go_wp2_with fail
            refine (TA.out _ M1.out.2.2.1).mono ?_
            rintro e u2 ⟨rfl, h1, h2⟩
            have M2 : Hid (Own4 w u2 T (dropT T (fun l => l.fits a1 a2) 16) (dropT T (fun l => l.t == a1 && !l.g) 16) T) := M1.out.n2 h1 h2
            clear h1 h2 M1
            go_wp2_with fail
            refine (AL.out _ M2.out.2.2.2.1).mono ?_
            rintro e u3 ⟨rfl, h1, h2⟩
            have M3 : Hid (Own4 w u3 T (dropT T (fun l => l.fits a1 a2) 16) (dropT T (fun l => l.t == a1 && !l.g) 16) (dropT T (fun l => !true || !l.g) 16)) := M2.out.n3 h1 h2
            clear h1 h2 M2
            go_wp2_with fail
            refine (FA.out _ M3.out.2.1).mono ?_
            rintro e u4 ⟨rfl, hb⟩
            have M4 : Hid (Own4 w u4 T (dropT T (fun l => l.fits a1 a2) 16) (dropT T (fun l => l.t == a1 && !l.g) 16) (dropT T (fun l => !true || !l.g) 16)) := M3.out.grow hb
            clear hb M3
            go_wp2_with fail
            refine (FB.out _ (M4.out.grow (Go.Joins.below_alloc1 _ _)).2.2.1).mono ?_
            rintro e u5 ⟨rfl, hb⟩
            have M5 : Hid (Own4 w u5 T (dropT T (fun l => l.fits a1 a2) 16) (dropT T (fun l => l.t == a1 && !l.g) 16) (dropT T (fun l => !true || !l.g) 16)) := (M4.out.grow (Go.Joins.below_alloc1 _ _)).grow hb
            have lu4_5 : u4.heap.size < u5.heap.size := Nat.lt_of_lt_of_le (by simp) hb.size
            clear hb M4
            go_wp2_with fail
            refine (FC.out _ (M5.out.grow (Go.Joins.below_alloc1 _ _)).2.2.2.1).mono ?_
            rintro e u6 ⟨rfl, hb⟩
            have M6 : Hid (Own4 w u6 T (dropT T (fun l => l.fits a1 a2) 16) (dropT T (fun l => l.t == a1 && !l.g) 16) (dropT T (fun l => !true || !l.g) 16)) := (M5.out.grow (Go.Joins.below_alloc1 _ _)).grow hb
            have lu4_6 : u4.heap.size < u6.heap.size := Nat.lt_of_lt_of_le (by rw [World.size_alloc]; omega) hb.size
            have qu5_7_6 : u6.cell? ⟨u5.heap.size, 7, none⟩ = some (.bool false) := (hb.cell (p := ⟨u5.heap.size, 7, none⟩) (by simp)).trans (by simp)
            have lu5_6 : u5.heap.size < u6.heap.size := Nat.lt_of_lt_of_le (by simp) hb.size
            clear lu4_5 
            clear hb M5
            go_wp2_with fail
            refine (FZ.out _ (M6.out.grow (Go.Joins.below_alloc1 _ _)).1).mono ?_
            rintro e u7 ⟨rfl, hb⟩
            have B7 : Hid (w.heap.size < u7.heap.size) := Nat.lt_of_lt_of_le (Nat.lt_of_lt_of_le M6.out.1.2.2 (by simp)) hb.size
            have M7 : Hid (Own4 w u7 T (dropT T (fun l => l.fits a1 a2) 16) (dropT T (fun l => l.t == a1 && !l.g) 16) (dropT T (fun l => !true || !l.g) 16)) := (M6.out.grow (Go.Joins.below_alloc1 _ _)).grow hb
            have lu4_7 : u4.heap.size < u7.heap.size := Nat.lt_of_lt_of_le (by rw [World.size_alloc]; omega) hb.size
            have qu5_7_7 : u7.cell? ⟨u5.heap.size, 7, none⟩ = some (.bool false) := (hb.cell (p := ⟨u5.heap.size, 7, none⟩) (Nat.lt_of_lt_of_le lu5_6 (by rw [World.size_alloc]; omega))).trans ((World.cell?_alloc_lt _ _ _ (by exact lu5_6)).trans qu5_7_6)
            have lu5_7 : u5.heap.size < u7.heap.size := Nat.lt_of_lt_of_le (by rw [World.size_alloc]; omega) hb.size
            have qu6_7_7 : u7.cell? ⟨u6.heap.size, 7, none⟩ = some (.bool false) := (hb.cell (p := ⟨u6.heap.size, 7, none⟩) (by simp)).trans (by simp)
            have lu6_7 : u6.heap.size < u7.heap.size := Nat.lt_of_lt_of_le (by simp) hb.size
            clear lu4_6 
            clear lu5_6 qu5_7_6
            clear hb M6
            go_wp2_with fail
            refine (FK.out _ (M7.out.grow (Go.Joins.below_alloc1 _ _)).2.1).mono ?_
            rintro e u8 ⟨rfl, hb⟩
            have M8 : Hid (Own4 w u8 T (dropT T (fun l => l.fits a1 a2) 16) (dropT T (fun l => l.t == a1 && !l.g) 16) (dropT T (fun l => !true || !l.g) 16)) := (M7.out.grow (Go.Joins.below_alloc1 _ _)).grow hb
            have B8 : Hid (w.heap.size < u8.heap.size) := M8.out.1.2.2
            have qu7_0_8 : u8.cell? ⟨u7.heap.size, 0, none⟩ = some (.bool false) := (hb.cell (p := ⟨u7.heap.size, 0, none⟩) (by simp)).trans (by simp)
            have qu7_1_8 : u8.cell? ⟨u7.heap.size, 1, none⟩ = some (.int .i64 0) := (hb.cell (p := ⟨u7.heap.size, 1, none⟩) (by simp)).trans (by simp)
            have qu7_2_8 : u8.cell? ⟨u7.heap.size, 2, none⟩ = some (.int .i64 0) := (hb.cell (p := ⟨u7.heap.size, 2, none⟩) (by simp)).trans (by simp)
            have qu7_3_8 : u8.cell? ⟨u7.heap.size, 3, none⟩ = some (.int .i64 0) := (hb.cell (p := ⟨u7.heap.size, 3, none⟩) (by simp)).trans (by simp)
            have qu7_4_8 : u8.cell? ⟨u7.heap.size, 4, none⟩ = some (.bool false) := (hb.cell (p := ⟨u7.heap.size, 4, none⟩) (by simp)).trans (by simp)
            have qu7_5_8 : u8.cell? ⟨u7.heap.size, 5, none⟩ = some (.bool false) := (hb.cell (p := ⟨u7.heap.size, 5, none⟩) (by simp)).trans (by simp)
            have qu7_6_8 : u8.cell? ⟨u7.heap.size, 6, none⟩ = some (.bool false) := (hb.cell (p := ⟨u7.heap.size, 6, none⟩) (by simp)).trans (by simp)
            have qu7_7_8 : u8.cell? ⟨u7.heap.size, 7, none⟩ = some (.bool false) := (hb.cell (p := ⟨u7.heap.size, 7, none⟩) (by simp)).trans (by simp)
            have qu7_8_8 : u8.cell? ⟨u7.heap.size, 8, none⟩ = some (.bool false) := (hb.cell (p := ⟨u7.heap.size, 8, none⟩) (by simp)).trans (by simp)
            have lu7_8 : u7.heap.size < u8.heap.size := Nat.lt_of_lt_of_le (by simp) hb.size
            clear hb M7
            go_wp2_with fail
            refine (FF.out _ (M8.out.grow (Go.Joins.below_alloc1 _ _)).2.2.1).mono ?_
            rintro e u9 ⟨rfl, hb⟩
            have M9 : Hid (Own4 w u9 T (dropT T (fun l => l.fits a1 a2) 16) (dropT T (fun l => l.t == a1 && !l.g) 16) (dropT T (fun l => !true || !l.g) 16)) := (M8.out.grow (Go.Joins.below_alloc1 _ _)).grow hb
            have qu7_0_9 : u9.cell? ⟨u7.heap.size, 0, none⟩ = some (.bool false) := (hb.cell (p := ⟨u7.heap.size, 0, none⟩) (Nat.lt_of_lt_of_le lu7_8 (by rw [World.size_alloc]; omega))).trans ((World.cell?_alloc_lt _ _ _ (by exact lu7_8)).trans qu7_0_8)
            have qu7_1_9 : u9.cell? ⟨u7.heap.size, 1, none⟩ = some (.int .i64 0) := (hb.cell (p := ⟨u7.heap.size, 1, none⟩) (Nat.lt_of_lt_of_le lu7_8 (by rw [World.size_alloc]; omega))).trans ((World.cell?_alloc_lt _ _ _ (by exact lu7_8)).trans qu7_1_8)
            have qu7_2_9 : u9.cell? ⟨u7.heap.size, 2, none⟩ = some (.int .i64 0) := (hb.cell (p := ⟨u7.heap.size, 2, none⟩) (Nat.lt_of_lt_of_le lu7_8 (by rw [World.size_alloc]; omega))).trans ((World.cell?_alloc_lt _ _ _ (by exact lu7_8)).trans qu7_2_8)
            have qu7_3_9 : u9.cell? ⟨u7.heap.size, 3, none⟩ = some (.int .i64 0) := (hb.cell (p := ⟨u7.heap.size, 3, none⟩) (Nat.lt_of_lt_of_le lu7_8 (by rw [World.size_alloc]; omega))).trans ((World.cell?_alloc_lt _ _ _ (by exact lu7_8)).trans qu7_3_8)
            have qu7_4_9 : u9.cell? ⟨u7.heap.size, 4, none⟩ = some (.bool false) := (hb.cell (p := ⟨u7.heap.size, 4, none⟩) (Nat.lt_of_lt_of_le lu7_8 (by rw [World.size_alloc]; omega))).trans ((World.cell?_alloc_lt _ _ _ (by exact lu7_8)).trans qu7_4_8)
            have qu7_5_9 : u9.cell? ⟨u7.heap.size, 5, none⟩ = some (.bool false) := (hb.cell (p := ⟨u7.heap.size, 5, none⟩) (Nat.lt_of_lt_of_le lu7_8 (by rw [World.size_alloc]; omega))).trans ((World.cell?_alloc_lt _ _ _ (by exact lu7_8)).trans qu7_5_8)
            have qu7_6_9 : u9.cell? ⟨u7.heap.size, 6, none⟩ = some (.bool false) := (hb.cell (p := ⟨u7.heap.size, 6, none⟩) (Nat.lt_of_lt_of_le lu7_8 (by rw [World.size_alloc]; omega))).trans ((World.cell?_alloc_lt _ _ _ (by exact lu7_8)).trans qu7_6_8)
            have qu7_7_9 : u9.cell? ⟨u7.heap.size, 7, none⟩ = some (.bool false) := (hb.cell (p := ⟨u7.heap.size, 7, none⟩) (Nat.lt_of_lt_of_le lu7_8 (by rw [World.size_alloc]; omega))).trans ((World.cell?_alloc_lt _ _ _ (by exact lu7_8)).trans qu7_7_8)
            have qu7_8_9 : u9.cell? ⟨u7.heap.size, 8, none⟩ = some (.bool false) := (hb.cell (p := ⟨u7.heap.size, 8, none⟩) (Nat.lt_of_lt_of_le lu7_8 (by rw [World.size_alloc]; omega))).trans ((World.cell?_alloc_lt _ _ _ (by exact lu7_8)).trans qu7_8_8)
            have lu7_9 : u7.heap.size < u9.heap.size := Nat.lt_of_lt_of_le (by rw [World.size_alloc]; omega) hb.size
            have qu8_0_9 : u9.cell? ⟨u8.heap.size, 0, none⟩ = some (.bool false) := (hb.cell (p := ⟨u8.heap.size, 0, none⟩) (by simp)).trans (by simp)
            have qu8_1_9 : u9.cell? ⟨u8.heap.size, 1, none⟩ = some (.int .i64 0) := (hb.cell (p := ⟨u8.heap.size, 1, none⟩) (by simp)).trans (by simp)
            have qu8_2_9 : u9.cell? ⟨u8.heap.size, 2, none⟩ = some (.int .i64 0) := (hb.cell (p := ⟨u8.heap.size, 2, none⟩) (by simp)).trans (by simp)
            have qu8_3_9 : u9.cell? ⟨u8.heap.size, 3, none⟩ = some (.int .i64 0) := (hb.cell (p := ⟨u8.heap.size, 3, none⟩) (by simp)).trans (by simp)
            have qu8_4_9 : u9.cell? ⟨u8.heap.size, 4, none⟩ = some (.bool false) := (hb.cell (p := ⟨u8.heap.size, 4, none⟩) (by simp)).trans (by simp)
            have qu8_5_9 : u9.cell? ⟨u8.heap.size, 5, none⟩ = some (.bool false) := (hb.cell (p := ⟨u8.heap.size, 5, none⟩) (by simp)).trans (by simp)
            have qu8_6_9 : u9.cell? ⟨u8.heap.size, 6, none⟩ = some (.bool false) := (hb.cell (p := ⟨u8.heap.size, 6, none⟩) (by simp)).trans (by simp)
            have qu8_7_9 : u9.cell? ⟨u8.heap.size, 7, none⟩ = some (.bool false) := (hb.cell (p := ⟨u8.heap.size, 7, none⟩) (by simp)).trans (by simp)
            have qu8_8_9 : u9.cell? ⟨u8.heap.size, 8, none⟩ = some (.bool false) := (hb.cell (p := ⟨u8.heap.size, 8, none⟩) (by simp)).trans (by simp)
            have lu8_9 : u8.heap.size < u9.heap.size := Nat.lt_of_lt_of_le (by simp) hb.size
            clear lu7_8 qu7_0_8 qu7_1_8 qu7_2_8 qu7_3_8 qu7_4_8 qu7_5_8 qu7_6_8 qu7_7_8 qu7_8_8
            clear hb M8
            have lw9 : w.heap.size < u7.heap.size := by have := B7.out; omega
            have lw8 : w.heap.size < u8.heap.size := B8.out
            go_wp2_with fail
            refine (AX.out _ (M9.out.grow (Go.Joins.below_alloc1 _ _)).1).mono ?_
            rintro e u10 ⟨rfl, h1, h2⟩
            have M10 : Hid (Own4 w u10 (dropT T (fun l => !false || !l.g) 16) (dropT T (fun l => l.fits a1 a2) 16) (dropT T (fun l => l.t == a1 && !l.g) 16) (dropT T (fun l => !true || !l.g) 16)) := (M9.out.grow (Go.Joins.below_alloc1 _ _)).n0 h1 h2
            have qu7_0_10 : u10.cell? ⟨u7.heap.size, 0, none⟩ = some (.bool false) := cell_grown h2 (by rw [World.size_alloc]; omega) (by omega) ((World.cell?_alloc_lt _ _ _ (by exact lu7_9)).trans qu7_0_9)
            have qu7_1_10 : u10.cell? ⟨u7.heap.size, 1, none⟩ = some (.int .i64 0) := cell_grown h2 (by rw [World.size_alloc]; omega) (by omega) ((World.cell?_alloc_lt _ _ _ (by exact lu7_9)).trans qu7_1_9)
            have qu7_2_10 : u10.cell? ⟨u7.heap.size, 2, none⟩ = some (.int .i64 0) := cell_grown h2 (by rw [World.size_alloc]; omega) (by omega) ((World.cell?_alloc_lt _ _ _ (by exact lu7_9)).trans qu7_2_9)
            have qu7_3_10 : u10.cell? ⟨u7.heap.size, 3, none⟩ = some (.int .i64 0) := cell_grown h2 (by rw [World.size_alloc]; omega) (by omega) ((World.cell?_alloc_lt _ _ _ (by exact lu7_9)).trans qu7_3_9)
            have qu7_4_10 : u10.cell? ⟨u7.heap.size, 4, none⟩ = some (.bool false) := cell_grown h2 (by rw [World.size_alloc]; omega) (by omega) ((World.cell?_alloc_lt _ _ _ (by exact lu7_9)).trans qu7_4_9)
            have qu7_5_10 : u10.cell? ⟨u7.heap.size, 5, none⟩ = some (.bool false) := cell_grown h2 (by rw [World.size_alloc]; omega) (by omega) ((World.cell?_alloc_lt _ _ _ (by exact lu7_9)).trans qu7_5_9)
            have qu7_6_10 : u10.cell? ⟨u7.heap.size, 6, none⟩ = some (.bool false) := cell_grown h2 (by rw [World.size_alloc]; omega) (by omega) ((World.cell?_alloc_lt _ _ _ (by exact lu7_9)).trans qu7_6_9)
            have qu7_7_10 : u10.cell? ⟨u7.heap.size, 7, none⟩ = some (.bool false) := cell_grown h2 (by rw [World.size_alloc]; omega) (by omega) ((World.cell?_alloc_lt _ _ _ (by exact lu7_9)).trans qu7_7_9)
            have qu7_8_10 : u10.cell? ⟨u7.heap.size, 8, none⟩ = some (.bool false) := cell_grown h2 (by rw [World.size_alloc]; omega) (by omega) ((World.cell?_alloc_lt _ _ _ (by exact lu7_9)).trans qu7_8_9)
            have lu7_10 : u7.heap.size < u10.heap.size := Nat.lt_of_lt_of_le (by rw [World.size_alloc]; omega) h2.size
            have qu8_0_10 : u10.cell? ⟨u8.heap.size, 0, none⟩ = some (.bool false) := cell_grown h2 (by rw [World.size_alloc]; omega) (by omega) ((World.cell?_alloc_lt _ _ _ (by exact lu8_9)).trans qu8_0_9)
            have qu8_1_10 : u10.cell? ⟨u8.heap.size, 1, none⟩ = some (.int .i64 0) := cell_grown h2 (by rw [World.size_alloc]; omega) (by omega) ((World.cell?_alloc_lt _ _ _ (by exact lu8_9)).trans qu8_1_9)
            have qu8_2_10 : u10.cell? ⟨u8.heap.size, 2, none⟩ = some (.int .i64 0) := cell_grown h2 (by rw [World.size_alloc]; omega) (by omega) ((World.cell?_alloc_lt _ _ _ (by exact lu8_9)).trans qu8_2_9)
            have qu8_3_10 : u10.cell? ⟨u8.heap.size, 3, none⟩ = some (.int .i64 0) := cell_grown h2 (by rw [World.size_alloc]; omega) (by omega) ((World.cell?_alloc_lt _ _ _ (by exact lu8_9)).trans qu8_3_9)
            have qu8_4_10 : u10.cell? ⟨u8.heap.size, 4, none⟩ = some (.bool false) := cell_grown h2 (by rw [World.size_alloc]; omega) (by omega) ((World.cell?_alloc_lt _ _ _ (by exact lu8_9)).trans qu8_4_9)
            have qu8_5_10 : u10.cell? ⟨u8.heap.size, 5, none⟩ = some (.bool false) := cell_grown h2 (by rw [World.size_alloc]; omega) (by omega) ((World.cell?_alloc_lt _ _ _ (by exact lu8_9)).trans qu8_5_9)
            have qu8_6_10 : u10.cell? ⟨u8.heap.size, 6, none⟩ = some (.bool false) := cell_grown h2 (by rw [World.size_alloc]; omega) (by omega) ((World.cell?_alloc_lt _ _ _ (by exact lu8_9)).trans qu8_6_9)
            have qu8_7_10 : u10.cell? ⟨u8.heap.size, 7, none⟩ = some (.bool false) := cell_grown h2 (by rw [World.size_alloc]; omega) (by omega) ((World.cell?_alloc_lt _ _ _ (by exact lu8_9)).trans qu8_7_9)
            have qu8_8_10 : u10.cell? ⟨u8.heap.size, 8, none⟩ = some (.bool false) := cell_grown h2 (by rw [World.size_alloc]; omega) (by omega) ((World.cell?_alloc_lt _ _ _ (by exact lu8_9)).trans qu8_8_9)
            have lu8_10 : u8.heap.size < u10.heap.size := Nat.lt_of_lt_of_le (by rw [World.size_alloc]; omega) h2.size
            clear lu7_9 qu7_0_9 qu7_1_9 qu7_2_9 qu7_3_9 qu7_4_9 qu7_5_9 qu7_6_9 qu7_7_9 qu7_8_9
            clear lu8_9 qu8_0_9 qu8_1_9 qu8_2_9 qu8_3_9 qu8_4_9 qu8_5_9 qu8_6_9 qu8_7_9 qu8_8_9
            clear h1 h2 M9
            go_wp2_with fail
            refine (AW.out _).mono ?_
            rintro e u11 ⟨rfl, hb⟩
            have M11 : Hid (Own4 w u11 (dropT T (fun l => !false || !l.g) 16) (dropT T (fun l => l.fits a1 a2) 16) (dropT T (fun l => l.t == a1 && !l.g) 16) (dropT T (fun l => !true || !l.g) 16)) := M10.out.grow hb
            have qu7_0_11 : u11.cell? ⟨u7.heap.size, 0, none⟩ = some (.bool false) := (hb.cell (p := ⟨u7.heap.size, 0, none⟩) lu7_10).trans qu7_0_10
            have qu7_1_11 : u11.cell? ⟨u7.heap.size, 1, none⟩ = some (.int .i64 0) := (hb.cell (p := ⟨u7.heap.size, 1, none⟩) lu7_10).trans qu7_1_10
            have qu7_2_11 : u11.cell? ⟨u7.heap.size, 2, none⟩ = some (.int .i64 0) := (hb.cell (p := ⟨u7.heap.size, 2, none⟩) lu7_10).trans qu7_2_10
            have qu7_3_11 : u11.cell? ⟨u7.heap.size, 3, none⟩ = some (.int .i64 0) := (hb.cell (p := ⟨u7.heap.size, 3, none⟩) lu7_10).trans qu7_3_10
            have qu7_4_11 : u11.cell? ⟨u7.heap.size, 4, none⟩ = some (.bool false) := (hb.cell (p := ⟨u7.heap.size, 4, none⟩) lu7_10).trans qu7_4_10
            have qu7_5_11 : u11.cell? ⟨u7.heap.size, 5, none⟩ = some (.bool false) := (hb.cell (p := ⟨u7.heap.size, 5, none⟩) lu7_10).trans qu7_5_10
            have qu7_6_11 : u11.cell? ⟨u7.heap.size, 6, none⟩ = some (.bool false) := (hb.cell (p := ⟨u7.heap.size, 6, none⟩) lu7_10).trans qu7_6_10
            have qu7_7_11 : u11.cell? ⟨u7.heap.size, 7, none⟩ = some (.bool false) := (hb.cell (p := ⟨u7.heap.size, 7, none⟩) lu7_10).trans qu7_7_10
            have qu7_8_11 : u11.cell? ⟨u7.heap.size, 8, none⟩ = some (.bool false) := (hb.cell (p := ⟨u7.heap.size, 8, none⟩) lu7_10).trans qu7_8_10
            have lu7_11 : u7.heap.size < u11.heap.size := Nat.lt_of_lt_of_le lu7_10 hb.size
            have qu8_0_11 : u11.cell? ⟨u8.heap.size, 0, none⟩ = some (.bool false) := (hb.cell (p := ⟨u8.heap.size, 0, none⟩) lu8_10).trans qu8_0_10
            have qu8_1_11 : u11.cell? ⟨u8.heap.size, 1, none⟩ = some (.int .i64 0) := (hb.cell (p := ⟨u8.heap.size, 1, none⟩) lu8_10).trans qu8_1_10
            have qu8_2_11 : u11.cell? ⟨u8.heap.size, 2, none⟩ = some (.int .i64 0) := (hb.cell (p := ⟨u8.heap.size, 2, none⟩) lu8_10).trans qu8_2_10
            have qu8_3_11 : u11.cell? ⟨u8.heap.size, 3, none⟩ = some (.int .i64 0) := (hb.cell (p := ⟨u8.heap.size, 3, none⟩) lu8_10).trans qu8_3_10
            have qu8_4_11 : u11.cell? ⟨u8.heap.size, 4, none⟩ = some (.bool false) := (hb.cell (p := ⟨u8.heap.size, 4, none⟩) lu8_10).trans qu8_4_10
            have qu8_5_11 : u11.cell? ⟨u8.heap.size, 5, none⟩ = some (.bool false) := (hb.cell (p := ⟨u8.heap.size, 5, none⟩) lu8_10).trans qu8_5_10
            have qu8_6_11 : u11.cell? ⟨u8.heap.size, 6, none⟩ = some (.bool false) := (hb.cell (p := ⟨u8.heap.size, 6, none⟩) lu8_10).trans qu8_6_10
            have qu8_7_11 : u11.cell? ⟨u8.heap.size, 7, none⟩ = some (.bool false) := (hb.cell (p := ⟨u8.heap.size, 7, none⟩) lu8_10).trans qu8_7_10
            have qu8_8_11 : u11.cell? ⟨u8.heap.size, 8, none⟩ = some (.bool false) := (hb.cell (p := ⟨u8.heap.size, 8, none⟩) lu8_10).trans qu8_8_10
            have lu8_11 : u8.heap.size < u11.heap.size := Nat.lt_of_lt_of_le lu8_10 hb.size
            clear lu7_10 qu7_0_10 qu7_1_10 qu7_2_10 qu7_3_10 qu7_4_10 qu7_5_10 qu7_6_10 qu7_7_10 qu7_8_10
            clear lu8_10 qu8_0_10 qu8_1_10 qu8_2_10 qu8_3_10 qu8_4_10 qu8_5_10 qu8_6_10 qu8_7_10 qu8_8_10
            clear hb M10
            go_wp2_with fail
            refine (LN.out _ M11.out.1).mono ?_
            rintro e u12 ⟨⟨pl, cl, rfl⟩, hb⟩
            have M12 : Hid (Own4 w u12 (dropT T (fun l => !false || !l.g) 16) (dropT T (fun l => l.fits a1 a2) 16) (dropT T (fun l => l.t == a1 && !l.g) 16) (dropT T (fun l => !true || !l.g) 16)) := M11.out.grow hb
            clear hb
            go_wp2_with fail
            go_ret
            exact ⟨rfl, M12.out.2.2.2.2⟩
          · have hd : decide ((k : Int) < (n0 : Int)) = false := by simp; omega
            go_wp2_with fail
            refine (PG.out _ hM.out.2.1).mono ?_
            rintro e u1 ⟨rfl, h1, h2⟩
            have M1 : Hid (Own4 w u1 T (dropT T (fun l => l.fits a1 a2) 16) T T) := hM.out.n1 h1 h2
            clear h1 h2
            go_wp2_with fail
            refine (TA.out _ M1.out.2.2.1).mono ?_
            rintro e u2 ⟨rfl, h1, h2⟩
            have M2 : Hid (Own4 w u2 T (dropT T (fun l => l.fits a1 a2) 16) (dropT T (fun l => l.t == a1 && !l.g) 16) T) := M1.out.n2 h1 h2
            clear h1 h2 M1
            go_wp2_with fail
            refine (AL.out _ M2.out.2.2.2.1).mono ?_
            rintro e u3 ⟨rfl, h1, h2⟩
            have M3 : Hid (Own4 w u3 T (dropT T (fun l => l.fits a1 a2) 16) (dropT T (fun l => l.t == a1 && !l.g) 16) (dropT T (fun l => !true || !l.g) 16)) := M2.out.n3 h1 h2
            clear h1 h2 M2
            go_wp2_with fail
            refine (FA.out _ M3.out.2.1).mono ?_
            rintro e u4 ⟨rfl, hb⟩
            have M4 : Hid (Own4 w u4 T (dropT T (fun l => l.fits a1 a2) 16) (dropT T (fun l => l.t == a1 && !l.g) 16) (dropT T (fun l => !true || !l.g) 16)) := M3.out.grow hb
            clear hb M3
            go_wp2_with fail
            refine (FB.out _ (M4.out.grow (Go.Joins.below_alloc1 _ _)).2.2.1).mono ?_
            rintro e u5 ⟨rfl, hb⟩
            have M5 : Hid (Own4 w u5 T (dropT T (fun l => l.fits a1 a2) 16) (dropT T (fun l => l.t == a1 && !l.g) 16) (dropT T (fun l => !true || !l.g) 16)) := (M4.out.grow (Go.Joins.below_alloc1 _ _)).grow hb
            have lu4_5 : u4.heap.size < u5.heap.size := Nat.lt_of_lt_of_le (by simp) hb.size
            clear hb M4
            go_wp2_with fail
            refine (FC.out _ (M5.out.grow (Go.Joins.below_alloc1 _ _)).2.2.2.1).mono ?_
            rintro e u6 ⟨rfl, hb⟩
            have M6 : Hid (Own4 w u6 T (dropT T (fun l => l.fits a1 a2) 16) (dropT T (fun l => l.t == a1 && !l.g) 16) (dropT T (fun l => !true || !l.g) 16)) := (M5.out.grow (Go.Joins.below_alloc1 _ _)).grow hb
            have lu4_6 : u4.heap.size < u6.heap.size := Nat.lt_of_lt_of_le (by rw [World.size_alloc]; omega) hb.size
            have qu5_7_6 : u6.cell? ⟨u5.heap.size, 7, none⟩ = some (.bool false) := (hb.cell (p := ⟨u5.heap.size, 7, none⟩) (by simp)).trans (by simp)
            have lu5_6 : u5.heap.size < u6.heap.size := Nat.lt_of_lt_of_le (by simp) hb.size
            clear lu4_5 
            clear hb M5
            go_wp2_with fail
            refine (FZ.out _ (M6.out.grow (Go.Joins.below_alloc1 _ _)).1).mono ?_
            rintro e u7 ⟨rfl, hb⟩
            have B7 : Hid (w.heap.size < u7.heap.size) := Nat.lt_of_lt_of_le (Nat.lt_of_lt_of_le M6.out.1.2.2 (by simp)) hb.size
            have M7 : Hid (Own4 w u7 T (dropT T (fun l => l.fits a1 a2) 16) (dropT T (fun l => l.t == a1 && !l.g) 16) (dropT T (fun l => !true || !l.g) 16)) := (M6.out.grow (Go.Joins.below_alloc1 _ _)).grow hb
            have lu4_7 : u4.heap.size < u7.heap.size := Nat.lt_of_lt_of_le (by rw [World.size_alloc]; omega) hb.size
            have qu5_7_7 : u7.cell? ⟨u5.heap.size, 7, none⟩ = some (.bool false) := (hb.cell (p := ⟨u5.heap.size, 7, none⟩) (Nat.lt_of_lt_of_le lu5_6 (by rw [World.size_alloc]; omega))).trans ((World.cell?_alloc_lt _ _ _ (by exact lu5_6)).trans qu5_7_6)
            have lu5_7 : u5.heap.size < u7.heap.size := Nat.lt_of_lt_of_le (by rw [World.size_alloc]; omega) hb.size
            have qu6_7_7 : u7.cell? ⟨u6.heap.size, 7, none⟩ = some (.bool false) := (hb.cell (p := ⟨u6.heap.size, 7, none⟩) (by simp)).trans (by simp)
            have lu6_7 : u6.heap.size < u7.heap.size := Nat.lt_of_lt_of_le (by simp) hb.size
            clear lu4_6 
            clear lu5_6 qu5_7_6
            clear hb M6
            go_wp2_with fail
            refine (FK.out _ (M7.out.grow (Go.Joins.below_alloc1 _ _)).2.1).mono ?_
            rintro e u8 ⟨rfl, hb⟩
            have M8 : Hid (Own4 w u8 T (dropT T (fun l => l.fits a1 a2) 16) (dropT T (fun l => l.t == a1 && !l.g) 16) (dropT T (fun l => !true || !l.g) 16)) := (M7.out.grow (Go.Joins.below_alloc1 _ _)).grow hb
            have B8 : Hid (w.heap.size < u8.heap.size) := M8.out.1.2.2
            have qu7_0_8 : u8.cell? ⟨u7.heap.size, 0, none⟩ = some (.bool false) := (hb.cell (p := ⟨u7.heap.size, 0, none⟩) (by simp)).trans (by simp)
            have qu7_1_8 : u8.cell? ⟨u7.heap.size, 1, none⟩ = some (.int .i64 0) := (hb.cell (p := ⟨u7.heap.size, 1, none⟩) (by simp)).trans (by simp)
            have qu7_2_8 : u8.cell? ⟨u7.heap.size, 2, none⟩ = some (.int .i64 0) := (hb.cell (p := ⟨u7.heap.size, 2, none⟩) (by simp)).trans (by simp)
            have qu7_3_8 : u8.cell? ⟨u7.heap.size, 3, none⟩ = some (.int .i64 0) := (hb.cell (p := ⟨u7.heap.size, 3, none⟩) (by simp)).trans (by simp)
            have qu7_4_8 : u8.cell? ⟨u7.heap.size, 4, none⟩ = some (.bool false) := (hb.cell (p := ⟨u7.heap.size, 4, none⟩) (by simp)).trans (by simp)
            have qu7_5_8 : u8.cell? ⟨u7.heap.size, 5, none⟩ = some (.bool false) := (hb.cell (p := ⟨u7.heap.size, 5, none⟩) (by simp)).trans (by simp)
            have qu7_6_8 : u8.cell? ⟨u7.heap.size, 6, none⟩ = some (.bool false) := (hb.cell (p := ⟨u7.heap.size, 6, none⟩) (by simp)).trans (by simp)
            have qu7_7_8 : u8.cell? ⟨u7.heap.size, 7, none⟩ = some (.bool false) := (hb.cell (p := ⟨u7.heap.size, 7, none⟩) (by simp)).trans (by simp)
            have qu7_8_8 : u8.cell? ⟨u7.heap.size, 8, none⟩ = some (.bool false) := (hb.cell (p := ⟨u7.heap.size, 8, none⟩) (by simp)).trans (by simp)
            have lu7_8 : u7.heap.size < u8.heap.size := Nat.lt_of_lt_of_le (by simp) hb.size
            clear hb M7
            go_wp2_with fail
            refine (FF.out _ (M8.out.grow (Go.Joins.below_alloc1 _ _)).2.2.1).mono ?_
            rintro e u9 ⟨rfl, hb⟩
            have M9 : Hid (Own4 w u9 T (dropT T (fun l => l.fits a1 a2) 16) (dropT T (fun l => l.t == a1 && !l.g) 16) (dropT T (fun l => !true || !l.g) 16)) := (M8.out.grow (Go.Joins.below_alloc1 _ _)).grow hb
            have qu7_0_9 : u9.cell? ⟨u7.heap.size, 0, none⟩ = some (.bool false) := (hb.cell (p := ⟨u7.heap.size, 0, none⟩) (Nat.lt_of_lt_of_le lu7_8 (by rw [World.size_alloc]; omega))).trans ((World.cell?_alloc_lt _ _ _ (by exact lu7_8)).trans qu7_0_8)
            have qu7_1_9 : u9.cell? ⟨u7.heap.size, 1, none⟩ = some (.int .i64 0) := (hb.cell (p := ⟨u7.heap.size, 1, none⟩) (Nat.lt_of_lt_of_le lu7_8 (by rw [World.size_alloc]; omega))).trans ((World.cell?_alloc_lt _ _ _ (by exact lu7_8)).trans qu7_1_8)
            have qu7_2_9 : u9.cell? ⟨u7.heap.size, 2, none⟩ = some (.int .i64 0) := (hb.cell (p := ⟨u7.heap.size, 2, none⟩) (Nat.lt_of_lt_of_le lu7_8 (by rw [World.size_alloc]; omega))).trans ((World.cell?_alloc_lt _ _ _ (by exact lu7_8)).trans qu7_2_8)
            have qu7_3_9 : u9.cell? ⟨u7.heap.size, 3, none⟩ = some (.int .i64 0) := (hb.cell (p := ⟨u7.heap.size, 3, none⟩) (Nat.lt_of_lt_of_le lu7_8 (by rw [World.size_alloc]; omega))).trans ((World.cell?_alloc_lt _ _ _ (by exact lu7_8)).trans qu7_3_8)
            have qu7_4_9 : u9.cell? ⟨u7.heap.size, 4, none⟩ = some (.bool false) := (hb.cell (p := ⟨u7.heap.size, 4, none⟩) (Nat.lt_of_lt_of_le lu7_8 (by rw [World.size_alloc]; omega))).trans ((World.cell?_alloc_lt _ _ _ (by exact lu7_8)).trans qu7_4_8)
            have qu7_5_9 : u9.cell? ⟨u7.heap.size, 5, none⟩ = some (.bool false) := (hb.cell (p := ⟨u7.heap.size, 5, none⟩) (Nat.lt_of_lt_of_le lu7_8 (by rw [World.size_alloc]; omega))).trans ((World.cell?_alloc_lt _ _ _ (by exact lu7_8)).trans qu7_5_8)
            have qu7_6_9 : u9.cell? ⟨u7.heap.size, 6, none⟩ = some (.bool false) := (hb.cell (p := ⟨u7.heap.size, 6, none⟩) (Nat.lt_of_lt_of_le lu7_8 (by rw [World.size_alloc]; omega))).trans ((World.cell?_alloc_lt _ _ _ (by exact lu7_8)).trans qu7_6_8)
            have qu7_7_9 : u9.cell? ⟨u7.heap.size, 7, none⟩ = some (.bool false) := (hb.cell (p := ⟨u7.heap.size, 7, none⟩) (Nat.lt_of_lt_of_le lu7_8 (by rw [World.size_alloc]; omega))).trans ((World.cell?_alloc_lt _ _ _ (by exact lu7_8)).trans qu7_7_8)
            have qu7_8_9 : u9.cell? ⟨u7.heap.size, 8, none⟩ = some (.bool false) := (hb.cell (p := ⟨u7.heap.size, 8, none⟩) (Nat.lt_of_lt_of_le lu7_8 (by rw [World.size_alloc]; omega))).trans ((World.cell?_alloc_lt _ _ _ (by exact lu7_8)).trans qu7_8_8)
            have lu7_9 : u7.heap.size < u9.heap.size := Nat.lt_of_lt_of_le (by rw [World.size_alloc]; omega) hb.size
            have qu8_0_9 : u9.cell? ⟨u8.heap.size, 0, none⟩ = some (.bool false) := (hb.cell (p := ⟨u8.heap.size, 0, none⟩) (by simp)).trans (by simp)
            have qu8_1_9 : u9.cell? ⟨u8.heap.size, 1, none⟩ = some (.int .i64 0) := (hb.cell (p := ⟨u8.heap.size, 1, none⟩) (by simp)).trans (by simp)
            have qu8_2_9 : u9.cell? ⟨u8.heap.size, 2, none⟩ = some (.int .i64 0) := (hb.cell (p := ⟨u8.heap.size, 2, none⟩) (by simp)).trans (by simp)
            have qu8_3_9 : u9.cell? ⟨u8.heap.size, 3, none⟩ = some (.int .i64 0) := (hb.cell (p := ⟨u8.heap.size, 3, none⟩) (by simp)).trans (by simp)
            have qu8_4_9 : u9.cell? ⟨u8.heap.size, 4, none⟩ = some (.bool false) := (hb.cell (p := ⟨u8.heap.size, 4, none⟩) (by simp)).trans (by simp)
            have qu8_5_9 : u9.cell? ⟨u8.heap.size, 5, none⟩ = some (.bool false) := (hb.cell (p := ⟨u8.heap.size, 5, none⟩) (by simp)).trans (by simp)
            have qu8_6_9 : u9.cell? ⟨u8.heap.size, 6, none⟩ = some (.bool false) := (hb.cell (p := ⟨u8.heap.size, 6, none⟩) (by simp)).trans (by simp)
            have qu8_7_9 : u9.cell? ⟨u8.heap.size, 7, none⟩ = some (.bool false) := (hb.cell (p := ⟨u8.heap.size, 7, none⟩) (by simp)).trans (by simp)
            have qu8_8_9 : u9.cell? ⟨u8.heap.size, 8, none⟩ = some (.bool false) := (hb.cell (p := ⟨u8.heap.size, 8, none⟩) (by simp)).trans (by simp)
            have lu8_9 : u8.heap.size < u9.heap.size := Nat.lt_of_lt_of_le (by simp) hb.size
            clear lu7_8 qu7_0_8 qu7_1_8 qu7_2_8 qu7_3_8 qu7_4_8 qu7_5_8 qu7_6_8 qu7_7_8 qu7_8_8
            clear hb M8
            have lw9 : w.heap.size < u7.heap.size := by have := B7.out; omega
            have lw8 : w.heap.size < u8.heap.size := B8.out
            go_wp2_with fail
            refine (AX.out _ (M9.out.grow (Go.Joins.below_alloc1 _ _)).1).mono ?_
            rintro e u10 ⟨rfl, h1, h2⟩
            have M10 : Hid (Own4 w u10 (dropT T (fun l => !false || !l.g) 16) (dropT T (fun l => l.fits a1 a2) 16) (dropT T (fun l => l.t == a1 && !l.g) 16) (dropT T (fun l => !true || !l.g) 16)) := (M9.out.grow (Go.Joins.below_alloc1 _ _)).n0 h1 h2
            have qu7_0_10 : u10.cell? ⟨u7.heap.size, 0, none⟩ = some (.bool false) := cell_grown h2 (by rw [World.size_alloc]; omega) (by omega) ((World.cell?_alloc_lt _ _ _ (by exact lu7_9)).trans qu7_0_9)
            have qu7_1_10 : u10.cell? ⟨u7.heap.size, 1, none⟩ = some (.int .i64 0) := cell_grown h2 (by rw [World.size_alloc]; omega) (by omega) ((World.cell?_alloc_lt _ _ _ (by exact lu7_9)).trans qu7_1_9)
            have qu7_2_10 : u10.cell? ⟨u7.heap.size, 2, none⟩ = some (.int .i64 0) := cell_grown h2 (by rw [World.size_alloc]; omega) (by omega) ((World.cell?_alloc_lt _ _ _ (by exact lu7_9)).trans qu7_2_9)
            have qu7_3_10 : u10.cell? ⟨u7.heap.size, 3, none⟩ = some (.int .i64 0) := cell_grown h2 (by rw [World.size_alloc]; omega) (by omega) ((World.cell?_alloc_lt _ _ _ (by exact lu7_9)).trans qu7_3_9)
            have qu7_4_10 : u10.cell? ⟨u7.heap.size, 4, none⟩ = some (.bool false) := cell_grown h2 (by rw [World.size_alloc]; omega) (by omega) ((World.cell?_alloc_lt _ _ _ (by exact lu7_9)).trans qu7_4_9)
            have qu7_5_10 : u10.cell? ⟨u7.heap.size, 5, none⟩ = some (.bool false) := cell_grown h2 (by rw [World.size_alloc]; omega) (by omega) ((World.cell?_alloc_lt _ _ _ (by exact lu7_9)).trans qu7_5_9)
            have qu7_6_10 : u10.cell? ⟨u7.heap.size, 6, none⟩ = some (.bool false) := cell_grown h2 (by rw [World.size_alloc]; omega) (by omega) ((World.cell?_alloc_lt _ _ _ (by exact lu7_9)).trans qu7_6_9)
            have qu7_7_10 : u10.cell? ⟨u7.heap.size, 7, none⟩ = some (.bool false) := cell_grown h2 (by rw [World.size_alloc]; omega) (by omega) ((World.cell?_alloc_lt _ _ _ (by exact lu7_9)).trans qu7_7_9)
            have qu7_8_10 : u10.cell? ⟨u7.heap.size, 8, none⟩ = some (.bool false) := cell_grown h2 (by rw [World.size_alloc]; omega) (by omega) ((World.cell?_alloc_lt _ _ _ (by exact lu7_9)).trans qu7_8_9)
            have lu7_10 : u7.heap.size < u10.heap.size := Nat.lt_of_lt_of_le (by rw [World.size_alloc]; omega) h2.size
            have qu8_0_10 : u10.cell? ⟨u8.heap.size, 0, none⟩ = some (.bool false) := cell_grown h2 (by rw [World.size_alloc]; omega) (by omega) ((World.cell?_alloc_lt _ _ _ (by exact lu8_9)).trans qu8_0_9)
            have qu8_1_10 : u10.cell? ⟨u8.heap.size, 1, none⟩ = some (.int .i64 0) := cell_grown h2 (by rw [World.size_alloc]; omega) (by omega) ((World.cell?_alloc_lt _ _ _ (by exact lu8_9)).trans qu8_1_9)
            have qu8_2_10 : u10.cell? ⟨u8.heap.size, 2, none⟩ = some (.int .i64 0) := cell_grown h2 (by rw [World.size_alloc]; omega) (by omega) ((World.cell?_alloc_lt _ _ _ (by exact lu8_9)).trans qu8_2_9)
            have qu8_3_10 : u10.cell? ⟨u8.heap.size, 3, none⟩ = some (.int .i64 0) := cell_grown h2 (by rw [World.size_alloc]; omega) (by omega) ((World.cell?_alloc_lt _ _ _ (by exact lu8_9)).trans qu8_3_9)
            have qu8_4_10 : u10.cell? ⟨u8.heap.size, 4, none⟩ = some (.bool false) := cell_grown h2 (by rw [World.size_alloc]; omega) (by omega) ((World.cell?_alloc_lt _ _ _ (by exact lu8_9)).trans qu8_4_9)
            have qu8_5_10 : u10.cell? ⟨u8.heap.size, 5, none⟩ = some (.bool false) := cell_grown h2 (by rw [World.size_alloc]; omega) (by omega) ((World.cell?_alloc_lt _ _ _ (by exact lu8_9)).trans qu8_5_9)
            have qu8_6_10 : u10.cell? ⟨u8.heap.size, 6, none⟩ = some (.bool false) := cell_grown h2 (by rw [World.size_alloc]; omega) (by omega) ((World.cell?_alloc_lt _ _ _ (by exact lu8_9)).trans qu8_6_9)
            have qu8_7_10 : u10.cell? ⟨u8.heap.size, 7, none⟩ = some (.bool false) := cell_grown h2 (by rw [World.size_alloc]; omega) (by omega) ((World.cell?_alloc_lt _ _ _ (by exact lu8_9)).trans qu8_7_9)
            have qu8_8_10 : u10.cell? ⟨u8.heap.size, 8, none⟩ = some (.bool false) := cell_grown h2 (by rw [World.size_alloc]; omega) (by omega) ((World.cell?_alloc_lt _ _ _ (by exact lu8_9)).trans qu8_8_9)
            have lu8_10 : u8.heap.size < u10.heap.size := Nat.lt_of_lt_of_le (by rw [World.size_alloc]; omega) h2.size
            clear lu7_9 qu7_0_9 qu7_1_9 qu7_2_9 qu7_3_9 qu7_4_9 qu7_5_9 qu7_6_9 qu7_7_9 qu7_8_9
            clear lu8_9 qu8_0_9 qu8_1_9 qu8_2_9 qu8_3_9 qu8_4_9 qu8_5_9 qu8_6_9 qu8_7_9 qu8_8_9
            clear h1 h2 M9
            go_wp2_with fail
            refine (AW.out _).mono ?_
            rintro e u11 ⟨rfl, hb⟩
            have M11 : Hid (Own4 w u11 (dropT T (fun l => !false || !l.g) 16) (dropT T (fun l => l.fits a1 a2) 16) (dropT T (fun l => l.t == a1 && !l.g) 16) (dropT T (fun l => !true || !l.g) 16)) := M10.out.grow hb
            have qu7_0_11 : u11.cell? ⟨u7.heap.size, 0, none⟩ = some (.bool false) := (hb.cell (p := ⟨u7.heap.size, 0, none⟩) lu7_10).trans qu7_0_10
            have qu7_1_11 : u11.cell? ⟨u7.heap.size, 1, none⟩ = some (.int .i64 0) := (hb.cell (p := ⟨u7.heap.size, 1, none⟩) lu7_10).trans qu7_1_10
            have qu7_2_11 : u11.cell? ⟨u7.heap.size, 2, none⟩ = some (.int .i64 0) := (hb.cell (p := ⟨u7.heap.size, 2, none⟩) lu7_10).trans qu7_2_10
            have qu7_3_11 : u11.cell? ⟨u7.heap.size, 3, none⟩ = some (.int .i64 0) := (hb.cell (p := ⟨u7.heap.size, 3, none⟩) lu7_10).trans qu7_3_10
            have qu7_4_11 : u11.cell? ⟨u7.heap.size, 4, none⟩ = some (.bool false) := (hb.cell (p := ⟨u7.heap.size, 4, none⟩) lu7_10).trans qu7_4_10
            have qu7_5_11 : u11.cell? ⟨u7.heap.size, 5, none⟩ = some (.bool false) := (hb.cell (p := ⟨u7.heap.size, 5, none⟩) lu7_10).trans qu7_5_10
            have qu7_6_11 : u11.cell? ⟨u7.heap.size, 6, none⟩ = some (.bool false) := (hb.cell (p := ⟨u7.heap.size, 6, none⟩) lu7_10).trans qu7_6_10
            have qu7_7_11 : u11.cell? ⟨u7.heap.size, 7, none⟩ = some (.bool false) := (hb.cell (p := ⟨u7.heap.size, 7, none⟩) lu7_10).trans qu7_7_10
            have qu7_8_11 : u11.cell? ⟨u7.heap.size, 8, none⟩ = some (.bool false) := (hb.cell (p := ⟨u7.heap.size, 8, none⟩) lu7_10).trans qu7_8_10
            have lu7_11 : u7.heap.size < u11.heap.size := Nat.lt_of_lt_of_le lu7_10 hb.size
            have qu8_0_11 : u11.cell? ⟨u8.heap.size, 0, none⟩ = some (.bool false) := (hb.cell (p := ⟨u8.heap.size, 0, none⟩) lu8_10).trans qu8_0_10
            have qu8_1_11 : u11.cell? ⟨u8.heap.size, 1, none⟩ = some (.int .i64 0) := (hb.cell (p := ⟨u8.heap.size, 1, none⟩) lu8_10).trans qu8_1_10
            have qu8_2_11 : u11.cell? ⟨u8.heap.size, 2, none⟩ = some (.int .i64 0) := (hb.cell (p := ⟨u8.heap.size, 2, none⟩) lu8_10).trans qu8_2_10
            have qu8_3_11 : u11.cell? ⟨u8.heap.size, 3, none⟩ = some (.int .i64 0) := (hb.cell (p := ⟨u8.heap.size, 3, none⟩) lu8_10).trans qu8_3_10
            have qu8_4_11 : u11.cell? ⟨u8.heap.size, 4, none⟩ = some (.bool false) := (hb.cell (p := ⟨u8.heap.size, 4, none⟩) lu8_10).trans qu8_4_10
            have qu8_5_11 : u11.cell? ⟨u8.heap.size, 5, none⟩ = some (.bool false) := (hb.cell (p := ⟨u8.heap.size, 5, none⟩) lu8_10).trans qu8_5_10
            have qu8_6_11 : u11.cell? ⟨u8.heap.size, 6, none⟩ = some (.bool false) := (hb.cell (p := ⟨u8.heap.size, 6, none⟩) lu8_10).trans qu8_6_10
            have qu8_7_11 : u11.cell? ⟨u8.heap.size, 7, none⟩ = some (.bool false) := (hb.cell (p := ⟨u8.heap.size, 7, none⟩) lu8_10).trans qu8_7_10
            have qu8_8_11 : u11.cell? ⟨u8.heap.size, 8, none⟩ = some (.bool false) := (hb.cell (p := ⟨u8.heap.size, 8, none⟩) lu8_10).trans qu8_8_10
            have lu8_11 : u8.heap.size < u11.heap.size := Nat.lt_of_lt_of_le lu8_10 hb.size
            clear lu7_10 qu7_0_10 qu7_1_10 qu7_2_10 qu7_3_10 qu7_4_10 qu7_5_10 qu7_6_10 qu7_7_10 qu7_8_10
            clear lu8_10 qu8_0_10 qu8_1_10 qu8_2_10 qu8_3_10 qu8_4_10 qu8_5_10 qu8_6_10 qu8_7_10 qu8_8_10
            clear hb M10
            go_wp2_with fail
            refine (LN.out _ M11.out.1).mono ?_
            rintro e u12 ⟨⟨pl, cl, rfl⟩, hb⟩
            have M12 : Hid (Own4 w u12 (dropT T (fun l => !false || !l.g) 16) (dropT T (fun l => l.fits a1 a2) 16) (dropT T (fun l => l.t == a1 && !l.g) 16) (dropT T (fun l => !true || !l.g) 16)) := M11.out.grow hb
            clear hb
            go_wp2_with fail
            go_ret
            exact ⟨rfl, M12.out.2.2.2.2⟩
        · skip
          have FA : Hid (∀ W : World, IsTlb W (w.heap.size + 1) (dropT T (fun l => l.fits a1 a2) 16) → Calls Try.prog 13 #[.pointer (some ⟨(w.heap.size + 1), 0, none⟩), .int .i64 a1, .int .i64 a2] W fun e w' => e = .returned (.tuple #[.agg #[.bool false, .int .i64 0, .int .i64 0, .int .i64 0, .bool false, .bool false, .bool false, .bool false, .bool false], .bool false]) ∧ Below W.heap.size W w') := fun W h => by
            have := find_any (w.heap.size + 1) (dropT T (fun l => l.fits a1 a2) 16) a1 a2 W h
            rw [find_drop hG.out, rA] at this; exact this
          have FB : Hid (∀ W : World, IsTlb W (w.heap.size + 1 + 1) (dropT T (fun l => l.t == a1 && !l.g) 16) → Calls Try.prog 13 #[.pointer (some ⟨(w.heap.size + 1 + 1), 0, none⟩), .int .i64 a1, .int .i64 a3] W fun e w' => e = .returned (.tuple #[.agg #[.bool false, .int .i64 0, .int .i64 0, .int .i64 0, .bool false, .bool false, .bool false, .bool false, .bool false], .bool false]) ∧ Below W.heap.size W w') := fun W h => by
            have := find_any (w.heap.size + 1 + 1) (dropT T (fun l => l.t == a1 && !l.g) 16) a1 a3 W h
            rw [find_drop hG.out, hz0, if_neg (by simp)] at this; exact this
          have FC : Hid (∀ W : World, IsTlb W (w.heap.size + 1 + 1 + 1) (dropT T (fun l => !true || !l.g) 16) → Calls Try.prog 13 #[.pointer (some ⟨(w.heap.size + 1 + 1 + 1), 0, none⟩), .int .i64 a1, .int .i64 a3] W fun e w' => e = .returned (.tuple #[.agg #[.bool false, .int .i64 0, .int .i64 0, .int .i64 0, .bool false, .bool false, .bool false, .bool false, .bool false], .bool false]) ∧ Below W.heap.size W w') := fun W h => by
            have := find_any (w.heap.size + 1 + 1 + 1) (dropT T (fun l => !true || !l.g) 16) a1 a3 W h
            rw [find_drop hG.out, hz0, if_neg (by simp)] at this; exact this
          have FZ : Hid (∀ W : World, IsTlb W w.heap.size (T) → Calls Try.prog 13 #[.pointer (some ⟨w.heap.size, 0, none⟩), .int .i64 a1, .int .i64 a3] W fun e w' => e = .returned (.tuple #[.agg #[.bool false, .int .i64 0, .int .i64 0, .int .i64 0, .bool false, .bool false, .bool false, .bool false, .bool false], .bool false]) ∧ Below W.heap.size W w') := fun W h => by
            have := find_any w.heap.size (T) a1 a3 W h
            rw [hz0] at this; exact this
          have FK : Hid (∀ W : World, IsTlb W (w.heap.size + 1) (dropT T (fun l => l.fits a1 a2) 16) → Calls Try.prog 13 #[.pointer (some ⟨(w.heap.size + 1), 0, none⟩), .int .i64 a1, .int .i64 a3] W fun e w' => e = .returned (.tuple #[.agg #[.bool false, .int .i64 0, .int .i64 0, .int .i64 0, .bool false, .bool false, .bool false, .bool false, .bool false], .bool false]) ∧ Below W.heap.size W w') := fun W h => by
            have := find_any (w.heap.size + 1) (dropT T (fun l => l.fits a1 a2) 16) a1 a3 W h
            rw [find_drop hG.out, hz0, if_neg (by simp)] at this; exact this
          have FF : Hid (∀ W : World, IsTlb W (w.heap.size + 1 + 1) (dropT T (fun l => l.t == a1 && !l.g) 16) → Calls Try.prog 13 #[.pointer (some ⟨(w.heap.size + 1 + 1), 0, none⟩), .int .i64 a1, .int .i64 a3] W fun e w' => e = .returned (.tuple #[.agg #[.bool false, .int .i64 0, .int .i64 0, .int .i64 0, .bool false, .bool false, .bool false, .bool false, .bool false], .bool false]) ∧ Below W.heap.size W w') := fun W h => by
            have := find_any (w.heap.size + 1 + 1) (dropT T (fun l => l.t == a1 && !l.g) 16) a1 a3 W h
            rw [find_drop hG.out, hz0, if_neg (by simp)] at this; exact this
          clear hG
          by_cases hq : k < n0
          · have hd : decide ((k : Int) < (n0 : Int)) = true := by simp; omega
            have hd2 : decide ((k : Int) < 60) = false := by simp; omega
            go_wp2_with fail
            refine (PG.out _ hM.out.2.1).mono ?_
            rintro e u1 ⟨rfl, h1, h2⟩
            have M1 : Hid (Own4 w u1 T (dropT T (fun l => l.fits a1 a2) 16) T T) := hM.out.n1 h1 h2
            clear h1 h2
            go_wp2_with fail
            refine (TA.out _ M1.out.2.2.1).mono ?_
            rintro e u2 ⟨rfl, h1, h2⟩
            have M2 : Hid (Own4 w u2 T (dropT T (fun l => l.fits a1 a2) 16) (dropT T (fun l => l.t == a1 && !l.g) 16) T) := M1.out.n2 h1 h2
            clear h1 h2 M1
            go_wp2_with fail
            refine (AL.out _ M2.out.2.2.2.1).mono ?_
            rintro e u3 ⟨rfl, h1, h2⟩
            have M3 : Hid (Own4 w u3 T (dropT T (fun l => l.fits a1 a2) 16) (dropT T (fun l => l.t == a1 && !l.g) 16) (dropT T (fun l => !true || !l.g) 16)) := M2.out.n3 h1 h2
            clear h1 h2 M2
            go_wp2_with fail
            refine (FA.out _ M3.out.2.1).mono ?_
            rintro e u4 ⟨rfl, hb⟩
            have M4 : Hid (Own4 w u4 T (dropT T (fun l => l.fits a1 a2) 16) (dropT T (fun l => l.t == a1 && !l.g) 16) (dropT T (fun l => !true || !l.g) 16)) := M3.out.grow hb
            clear hb M3
            go_wp2_with fail
            refine (FB.out _ (M4.out.grow (Go.Joins.below_alloc1 _ _)).2.2.1).mono ?_
            rintro e u5 ⟨rfl, hb⟩
            have M5 : Hid (Own4 w u5 T (dropT T (fun l => l.fits a1 a2) 16) (dropT T (fun l => l.t == a1 && !l.g) 16) (dropT T (fun l => !true || !l.g) 16)) := (M4.out.grow (Go.Joins.below_alloc1 _ _)).grow hb
            have lu4_5 : u4.heap.size < u5.heap.size := Nat.lt_of_lt_of_le (by simp) hb.size
            clear hb M4
            go_wp2_with fail
            refine (FC.out _ (M5.out.grow (Go.Joins.below_alloc1 _ _)).2.2.2.1).mono ?_
            rintro e u6 ⟨rfl, hb⟩
            have M6 : Hid (Own4 w u6 T (dropT T (fun l => l.fits a1 a2) 16) (dropT T (fun l => l.t == a1 && !l.g) 16) (dropT T (fun l => !true || !l.g) 16)) := (M5.out.grow (Go.Joins.below_alloc1 _ _)).grow hb
            have lu4_6 : u4.heap.size < u6.heap.size := Nat.lt_of_lt_of_le (by rw [World.size_alloc]; omega) hb.size
            have qu5_7_6 : u6.cell? ⟨u5.heap.size, 7, none⟩ = some (.bool false) := (hb.cell (p := ⟨u5.heap.size, 7, none⟩) (by simp)).trans (by simp)
            have lu5_6 : u5.heap.size < u6.heap.size := Nat.lt_of_lt_of_le (by simp) hb.size
            clear lu4_5 
            clear hb M5
            go_wp2_with fail
            refine (FZ.out _ (M6.out.grow (Go.Joins.below_alloc1 _ _)).1).mono ?_
            rintro e u7 ⟨rfl, hb⟩
            have B7 : Hid (w.heap.size < u7.heap.size) := Nat.lt_of_lt_of_le (Nat.lt_of_lt_of_le M6.out.1.2.2 (by simp)) hb.size
            have M7 : Hid (Own4 w u7 T (dropT T (fun l => l.fits a1 a2) 16) (dropT T (fun l => l.t == a1 && !l.g) 16) (dropT T (fun l => !true || !l.g) 16)) := (M6.out.grow (Go.Joins.below_alloc1 _ _)).grow hb
            have lu4_7 : u4.heap.size < u7.heap.size := Nat.lt_of_lt_of_le (by rw [World.size_alloc]; omega) hb.size
            have qu5_7_7 : u7.cell? ⟨u5.heap.size, 7, none⟩ = some (.bool false) := (hb.cell (p := ⟨u5.heap.size, 7, none⟩) (Nat.lt_of_lt_of_le lu5_6 (by rw [World.size_alloc]; omega))).trans ((World.cell?_alloc_lt _ _ _ (by exact lu5_6)).trans qu5_7_6)
            have lu5_7 : u5.heap.size < u7.heap.size := Nat.lt_of_lt_of_le (by rw [World.size_alloc]; omega) hb.size
            have qu6_7_7 : u7.cell? ⟨u6.heap.size, 7, none⟩ = some (.bool false) := (hb.cell (p := ⟨u6.heap.size, 7, none⟩) (by simp)).trans (by simp)
            have lu6_7 : u6.heap.size < u7.heap.size := Nat.lt_of_lt_of_le (by simp) hb.size
            clear lu4_6 
            clear lu5_6 qu5_7_6
            clear hb M6
            go_wp2_with fail
            refine (FK.out _ (M7.out.grow (Go.Joins.below_alloc1 _ _)).2.1).mono ?_
            rintro e u8 ⟨rfl, hb⟩
            have M8 : Hid (Own4 w u8 T (dropT T (fun l => l.fits a1 a2) 16) (dropT T (fun l => l.t == a1 && !l.g) 16) (dropT T (fun l => !true || !l.g) 16)) := (M7.out.grow (Go.Joins.below_alloc1 _ _)).grow hb
            have B8 : Hid (w.heap.size < u8.heap.size) := M8.out.1.2.2
            have qu7_0_8 : u8.cell? ⟨u7.heap.size, 0, none⟩ = some (.bool false) := (hb.cell (p := ⟨u7.heap.size, 0, none⟩) (by simp)).trans (by simp)
            have qu7_1_8 : u8.cell? ⟨u7.heap.size, 1, none⟩ = some (.int .i64 0) := (hb.cell (p := ⟨u7.heap.size, 1, none⟩) (by simp)).trans (by simp)
            have qu7_2_8 : u8.cell? ⟨u7.heap.size, 2, none⟩ = some (.int .i64 0) := (hb.cell (p := ⟨u7.heap.size, 2, none⟩) (by simp)).trans (by simp)
            have qu7_3_8 : u8.cell? ⟨u7.heap.size, 3, none⟩ = some (.int .i64 0) := (hb.cell (p := ⟨u7.heap.size, 3, none⟩) (by simp)).trans (by simp)
            have qu7_4_8 : u8.cell? ⟨u7.heap.size, 4, none⟩ = some (.bool false) := (hb.cell (p := ⟨u7.heap.size, 4, none⟩) (by simp)).trans (by simp)
            have qu7_5_8 : u8.cell? ⟨u7.heap.size, 5, none⟩ = some (.bool false) := (hb.cell (p := ⟨u7.heap.size, 5, none⟩) (by simp)).trans (by simp)
            have qu7_6_8 : u8.cell? ⟨u7.heap.size, 6, none⟩ = some (.bool false) := (hb.cell (p := ⟨u7.heap.size, 6, none⟩) (by simp)).trans (by simp)
            have qu7_7_8 : u8.cell? ⟨u7.heap.size, 7, none⟩ = some (.bool false) := (hb.cell (p := ⟨u7.heap.size, 7, none⟩) (by simp)).trans (by simp)
            have qu7_8_8 : u8.cell? ⟨u7.heap.size, 8, none⟩ = some (.bool false) := (hb.cell (p := ⟨u7.heap.size, 8, none⟩) (by simp)).trans (by simp)
            have lu7_8 : u7.heap.size < u8.heap.size := Nat.lt_of_lt_of_le (by simp) hb.size
            clear hb M7
            go_wp2_with fail
            refine (FF.out _ (M8.out.grow (Go.Joins.below_alloc1 _ _)).2.2.1).mono ?_
            rintro e u9 ⟨rfl, hb⟩
            have M9 : Hid (Own4 w u9 T (dropT T (fun l => l.fits a1 a2) 16) (dropT T (fun l => l.t == a1 && !l.g) 16) (dropT T (fun l => !true || !l.g) 16)) := (M8.out.grow (Go.Joins.below_alloc1 _ _)).grow hb
            have qu7_0_9 : u9.cell? ⟨u7.heap.size, 0, none⟩ = some (.bool false) := (hb.cell (p := ⟨u7.heap.size, 0, none⟩) (Nat.lt_of_lt_of_le lu7_8 (by rw [World.size_alloc]; omega))).trans ((World.cell?_alloc_lt _ _ _ (by exact lu7_8)).trans qu7_0_8)
            have qu7_1_9 : u9.cell? ⟨u7.heap.size, 1, none⟩ = some (.int .i64 0) := (hb.cell (p := ⟨u7.heap.size, 1, none⟩) (Nat.lt_of_lt_of_le lu7_8 (by rw [World.size_alloc]; omega))).trans ((World.cell?_alloc_lt _ _ _ (by exact lu7_8)).trans qu7_1_8)
            have qu7_2_9 : u9.cell? ⟨u7.heap.size, 2, none⟩ = some (.int .i64 0) := (hb.cell (p := ⟨u7.heap.size, 2, none⟩) (Nat.lt_of_lt_of_le lu7_8 (by rw [World.size_alloc]; omega))).trans ((World.cell?_alloc_lt _ _ _ (by exact lu7_8)).trans qu7_2_8)
            have qu7_3_9 : u9.cell? ⟨u7.heap.size, 3, none⟩ = some (.int .i64 0) := (hb.cell (p := ⟨u7.heap.size, 3, none⟩) (Nat.lt_of_lt_of_le lu7_8 (by rw [World.size_alloc]; omega))).trans ((World.cell?_alloc_lt _ _ _ (by exact lu7_8)).trans qu7_3_8)
            have qu7_4_9 : u9.cell? ⟨u7.heap.size, 4, none⟩ = some (.bool false) := (hb.cell (p := ⟨u7.heap.size, 4, none⟩) (Nat.lt_of_lt_of_le lu7_8 (by rw [World.size_alloc]; omega))).trans ((World.cell?_alloc_lt _ _ _ (by exact lu7_8)).trans qu7_4_8)
            have qu7_5_9 : u9.cell? ⟨u7.heap.size, 5, none⟩ = some (.bool false) := (hb.cell (p := ⟨u7.heap.size, 5, none⟩) (Nat.lt_of_lt_of_le lu7_8 (by rw [World.size_alloc]; omega))).trans ((World.cell?_alloc_lt _ _ _ (by exact lu7_8)).trans qu7_5_8)
            have qu7_6_9 : u9.cell? ⟨u7.heap.size, 6, none⟩ = some (.bool false) := (hb.cell (p := ⟨u7.heap.size, 6, none⟩) (Nat.lt_of_lt_of_le lu7_8 (by rw [World.size_alloc]; omega))).trans ((World.cell?_alloc_lt _ _ _ (by exact lu7_8)).trans qu7_6_8)
            have qu7_7_9 : u9.cell? ⟨u7.heap.size, 7, none⟩ = some (.bool false) := (hb.cell (p := ⟨u7.heap.size, 7, none⟩) (Nat.lt_of_lt_of_le lu7_8 (by rw [World.size_alloc]; omega))).trans ((World.cell?_alloc_lt _ _ _ (by exact lu7_8)).trans qu7_7_8)
            have qu7_8_9 : u9.cell? ⟨u7.heap.size, 8, none⟩ = some (.bool false) := (hb.cell (p := ⟨u7.heap.size, 8, none⟩) (Nat.lt_of_lt_of_le lu7_8 (by rw [World.size_alloc]; omega))).trans ((World.cell?_alloc_lt _ _ _ (by exact lu7_8)).trans qu7_8_8)
            have lu7_9 : u7.heap.size < u9.heap.size := Nat.lt_of_lt_of_le (by rw [World.size_alloc]; omega) hb.size
            have qu8_0_9 : u9.cell? ⟨u8.heap.size, 0, none⟩ = some (.bool false) := (hb.cell (p := ⟨u8.heap.size, 0, none⟩) (by simp)).trans (by simp)
            have qu8_1_9 : u9.cell? ⟨u8.heap.size, 1, none⟩ = some (.int .i64 0) := (hb.cell (p := ⟨u8.heap.size, 1, none⟩) (by simp)).trans (by simp)
            have qu8_2_9 : u9.cell? ⟨u8.heap.size, 2, none⟩ = some (.int .i64 0) := (hb.cell (p := ⟨u8.heap.size, 2, none⟩) (by simp)).trans (by simp)
            have qu8_3_9 : u9.cell? ⟨u8.heap.size, 3, none⟩ = some (.int .i64 0) := (hb.cell (p := ⟨u8.heap.size, 3, none⟩) (by simp)).trans (by simp)
            have qu8_4_9 : u9.cell? ⟨u8.heap.size, 4, none⟩ = some (.bool false) := (hb.cell (p := ⟨u8.heap.size, 4, none⟩) (by simp)).trans (by simp)
            have qu8_5_9 : u9.cell? ⟨u8.heap.size, 5, none⟩ = some (.bool false) := (hb.cell (p := ⟨u8.heap.size, 5, none⟩) (by simp)).trans (by simp)
            have qu8_6_9 : u9.cell? ⟨u8.heap.size, 6, none⟩ = some (.bool false) := (hb.cell (p := ⟨u8.heap.size, 6, none⟩) (by simp)).trans (by simp)
            have qu8_7_9 : u9.cell? ⟨u8.heap.size, 7, none⟩ = some (.bool false) := (hb.cell (p := ⟨u8.heap.size, 7, none⟩) (by simp)).trans (by simp)
            have qu8_8_9 : u9.cell? ⟨u8.heap.size, 8, none⟩ = some (.bool false) := (hb.cell (p := ⟨u8.heap.size, 8, none⟩) (by simp)).trans (by simp)
            have lu8_9 : u8.heap.size < u9.heap.size := Nat.lt_of_lt_of_le (by simp) hb.size
            clear lu7_8 qu7_0_8 qu7_1_8 qu7_2_8 qu7_3_8 qu7_4_8 qu7_5_8 qu7_6_8 qu7_7_8 qu7_8_8
            clear hb M8
            have lw9 : w.heap.size < u7.heap.size := by have := B7.out; omega
            have lw8 : w.heap.size < u8.heap.size := B8.out
            go_wp2_with fail
            refine (AX.out _ (M9.out.grow (Go.Joins.below_alloc1 _ _)).1).mono ?_
            rintro e u10 ⟨rfl, h1, h2⟩
            have M10 : Hid (Own4 w u10 (dropT T (fun l => !false || !l.g) 16) (dropT T (fun l => l.fits a1 a2) 16) (dropT T (fun l => l.t == a1 && !l.g) 16) (dropT T (fun l => !true || !l.g) 16)) := (M9.out.grow (Go.Joins.below_alloc1 _ _)).n0 h1 h2
            have qu7_0_10 : u10.cell? ⟨u7.heap.size, 0, none⟩ = some (.bool false) := cell_grown h2 (by rw [World.size_alloc]; omega) (by omega) ((World.cell?_alloc_lt _ _ _ (by exact lu7_9)).trans qu7_0_9)
            have qu7_1_10 : u10.cell? ⟨u7.heap.size, 1, none⟩ = some (.int .i64 0) := cell_grown h2 (by rw [World.size_alloc]; omega) (by omega) ((World.cell?_alloc_lt _ _ _ (by exact lu7_9)).trans qu7_1_9)
            have qu7_2_10 : u10.cell? ⟨u7.heap.size, 2, none⟩ = some (.int .i64 0) := cell_grown h2 (by rw [World.size_alloc]; omega) (by omega) ((World.cell?_alloc_lt _ _ _ (by exact lu7_9)).trans qu7_2_9)
            have qu7_3_10 : u10.cell? ⟨u7.heap.size, 3, none⟩ = some (.int .i64 0) := cell_grown h2 (by rw [World.size_alloc]; omega) (by omega) ((World.cell?_alloc_lt _ _ _ (by exact lu7_9)).trans qu7_3_9)
            have qu7_4_10 : u10.cell? ⟨u7.heap.size, 4, none⟩ = some (.bool false) := cell_grown h2 (by rw [World.size_alloc]; omega) (by omega) ((World.cell?_alloc_lt _ _ _ (by exact lu7_9)).trans qu7_4_9)
            have qu7_5_10 : u10.cell? ⟨u7.heap.size, 5, none⟩ = some (.bool false) := cell_grown h2 (by rw [World.size_alloc]; omega) (by omega) ((World.cell?_alloc_lt _ _ _ (by exact lu7_9)).trans qu7_5_9)
            have qu7_6_10 : u10.cell? ⟨u7.heap.size, 6, none⟩ = some (.bool false) := cell_grown h2 (by rw [World.size_alloc]; omega) (by omega) ((World.cell?_alloc_lt _ _ _ (by exact lu7_9)).trans qu7_6_9)
            have qu7_7_10 : u10.cell? ⟨u7.heap.size, 7, none⟩ = some (.bool false) := cell_grown h2 (by rw [World.size_alloc]; omega) (by omega) ((World.cell?_alloc_lt _ _ _ (by exact lu7_9)).trans qu7_7_9)
            have qu7_8_10 : u10.cell? ⟨u7.heap.size, 8, none⟩ = some (.bool false) := cell_grown h2 (by rw [World.size_alloc]; omega) (by omega) ((World.cell?_alloc_lt _ _ _ (by exact lu7_9)).trans qu7_8_9)
            have lu7_10 : u7.heap.size < u10.heap.size := Nat.lt_of_lt_of_le (by rw [World.size_alloc]; omega) h2.size
            have qu8_0_10 : u10.cell? ⟨u8.heap.size, 0, none⟩ = some (.bool false) := cell_grown h2 (by rw [World.size_alloc]; omega) (by omega) ((World.cell?_alloc_lt _ _ _ (by exact lu8_9)).trans qu8_0_9)
            have qu8_1_10 : u10.cell? ⟨u8.heap.size, 1, none⟩ = some (.int .i64 0) := cell_grown h2 (by rw [World.size_alloc]; omega) (by omega) ((World.cell?_alloc_lt _ _ _ (by exact lu8_9)).trans qu8_1_9)
            have qu8_2_10 : u10.cell? ⟨u8.heap.size, 2, none⟩ = some (.int .i64 0) := cell_grown h2 (by rw [World.size_alloc]; omega) (by omega) ((World.cell?_alloc_lt _ _ _ (by exact lu8_9)).trans qu8_2_9)
            have qu8_3_10 : u10.cell? ⟨u8.heap.size, 3, none⟩ = some (.int .i64 0) := cell_grown h2 (by rw [World.size_alloc]; omega) (by omega) ((World.cell?_alloc_lt _ _ _ (by exact lu8_9)).trans qu8_3_9)
            have qu8_4_10 : u10.cell? ⟨u8.heap.size, 4, none⟩ = some (.bool false) := cell_grown h2 (by rw [World.size_alloc]; omega) (by omega) ((World.cell?_alloc_lt _ _ _ (by exact lu8_9)).trans qu8_4_9)
            have qu8_5_10 : u10.cell? ⟨u8.heap.size, 5, none⟩ = some (.bool false) := cell_grown h2 (by rw [World.size_alloc]; omega) (by omega) ((World.cell?_alloc_lt _ _ _ (by exact lu8_9)).trans qu8_5_9)
            have qu8_6_10 : u10.cell? ⟨u8.heap.size, 6, none⟩ = some (.bool false) := cell_grown h2 (by rw [World.size_alloc]; omega) (by omega) ((World.cell?_alloc_lt _ _ _ (by exact lu8_9)).trans qu8_6_9)
            have qu8_7_10 : u10.cell? ⟨u8.heap.size, 7, none⟩ = some (.bool false) := cell_grown h2 (by rw [World.size_alloc]; omega) (by omega) ((World.cell?_alloc_lt _ _ _ (by exact lu8_9)).trans qu8_7_9)
            have qu8_8_10 : u10.cell? ⟨u8.heap.size, 8, none⟩ = some (.bool false) := cell_grown h2 (by rw [World.size_alloc]; omega) (by omega) ((World.cell?_alloc_lt _ _ _ (by exact lu8_9)).trans qu8_8_9)
            have lu8_10 : u8.heap.size < u10.heap.size := Nat.lt_of_lt_of_le (by rw [World.size_alloc]; omega) h2.size
            clear lu7_9 qu7_0_9 qu7_1_9 qu7_2_9 qu7_3_9 qu7_4_9 qu7_5_9 qu7_6_9 qu7_7_9 qu7_8_9
            clear lu8_9 qu8_0_9 qu8_1_9 qu8_2_9 qu8_3_9 qu8_4_9 qu8_5_9 qu8_6_9 qu8_7_9 qu8_8_9
            clear h1 h2 M9
            go_wp2_with fail
            refine (AW.out _).mono ?_
            rintro e u11 ⟨rfl, hb⟩
            have M11 : Hid (Own4 w u11 (dropT T (fun l => !false || !l.g) 16) (dropT T (fun l => l.fits a1 a2) 16) (dropT T (fun l => l.t == a1 && !l.g) 16) (dropT T (fun l => !true || !l.g) 16)) := M10.out.grow hb
            have qu7_0_11 : u11.cell? ⟨u7.heap.size, 0, none⟩ = some (.bool false) := (hb.cell (p := ⟨u7.heap.size, 0, none⟩) lu7_10).trans qu7_0_10
            have qu7_1_11 : u11.cell? ⟨u7.heap.size, 1, none⟩ = some (.int .i64 0) := (hb.cell (p := ⟨u7.heap.size, 1, none⟩) lu7_10).trans qu7_1_10
            have qu7_2_11 : u11.cell? ⟨u7.heap.size, 2, none⟩ = some (.int .i64 0) := (hb.cell (p := ⟨u7.heap.size, 2, none⟩) lu7_10).trans qu7_2_10
            have qu7_3_11 : u11.cell? ⟨u7.heap.size, 3, none⟩ = some (.int .i64 0) := (hb.cell (p := ⟨u7.heap.size, 3, none⟩) lu7_10).trans qu7_3_10
            have qu7_4_11 : u11.cell? ⟨u7.heap.size, 4, none⟩ = some (.bool false) := (hb.cell (p := ⟨u7.heap.size, 4, none⟩) lu7_10).trans qu7_4_10
            have qu7_5_11 : u11.cell? ⟨u7.heap.size, 5, none⟩ = some (.bool false) := (hb.cell (p := ⟨u7.heap.size, 5, none⟩) lu7_10).trans qu7_5_10
            have qu7_6_11 : u11.cell? ⟨u7.heap.size, 6, none⟩ = some (.bool false) := (hb.cell (p := ⟨u7.heap.size, 6, none⟩) lu7_10).trans qu7_6_10
            have qu7_7_11 : u11.cell? ⟨u7.heap.size, 7, none⟩ = some (.bool false) := (hb.cell (p := ⟨u7.heap.size, 7, none⟩) lu7_10).trans qu7_7_10
            have qu7_8_11 : u11.cell? ⟨u7.heap.size, 8, none⟩ = some (.bool false) := (hb.cell (p := ⟨u7.heap.size, 8, none⟩) lu7_10).trans qu7_8_10
            have lu7_11 : u7.heap.size < u11.heap.size := Nat.lt_of_lt_of_le lu7_10 hb.size
            have qu8_0_11 : u11.cell? ⟨u8.heap.size, 0, none⟩ = some (.bool false) := (hb.cell (p := ⟨u8.heap.size, 0, none⟩) lu8_10).trans qu8_0_10
            have qu8_1_11 : u11.cell? ⟨u8.heap.size, 1, none⟩ = some (.int .i64 0) := (hb.cell (p := ⟨u8.heap.size, 1, none⟩) lu8_10).trans qu8_1_10
            have qu8_2_11 : u11.cell? ⟨u8.heap.size, 2, none⟩ = some (.int .i64 0) := (hb.cell (p := ⟨u8.heap.size, 2, none⟩) lu8_10).trans qu8_2_10
            have qu8_3_11 : u11.cell? ⟨u8.heap.size, 3, none⟩ = some (.int .i64 0) := (hb.cell (p := ⟨u8.heap.size, 3, none⟩) lu8_10).trans qu8_3_10
            have qu8_4_11 : u11.cell? ⟨u8.heap.size, 4, none⟩ = some (.bool false) := (hb.cell (p := ⟨u8.heap.size, 4, none⟩) lu8_10).trans qu8_4_10
            have qu8_5_11 : u11.cell? ⟨u8.heap.size, 5, none⟩ = some (.bool false) := (hb.cell (p := ⟨u8.heap.size, 5, none⟩) lu8_10).trans qu8_5_10
            have qu8_6_11 : u11.cell? ⟨u8.heap.size, 6, none⟩ = some (.bool false) := (hb.cell (p := ⟨u8.heap.size, 6, none⟩) lu8_10).trans qu8_6_10
            have qu8_7_11 : u11.cell? ⟨u8.heap.size, 7, none⟩ = some (.bool false) := (hb.cell (p := ⟨u8.heap.size, 7, none⟩) lu8_10).trans qu8_7_10
            have qu8_8_11 : u11.cell? ⟨u8.heap.size, 8, none⟩ = some (.bool false) := (hb.cell (p := ⟨u8.heap.size, 8, none⟩) lu8_10).trans qu8_8_10
            have lu8_11 : u8.heap.size < u11.heap.size := Nat.lt_of_lt_of_le lu8_10 hb.size
            clear lu7_10 qu7_0_10 qu7_1_10 qu7_2_10 qu7_3_10 qu7_4_10 qu7_5_10 qu7_6_10 qu7_7_10 qu7_8_10
            clear lu8_10 qu8_0_10 qu8_1_10 qu8_2_10 qu8_3_10 qu8_4_10 qu8_5_10 qu8_6_10 qu8_7_10 qu8_8_10
            clear hb M10
            go_wp2_with fail
            refine (LN.out _ M11.out.1).mono ?_
            rintro e u12 ⟨⟨pl, cl, rfl⟩, hb⟩
            have M12 : Hid (Own4 w u12 (dropT T (fun l => !false || !l.g) 16) (dropT T (fun l => l.fits a1 a2) 16) (dropT T (fun l => l.t == a1 && !l.g) 16) (dropT T (fun l => !true || !l.g) 16)) := M11.out.grow hb
            clear hb
            go_wp2_with fail
            go_ret
            exact ⟨rfl, M12.out.2.2.2.2⟩
          · have hd : decide ((k : Int) < (n0 : Int)) = false := by simp; omega
            go_wp2_with fail
            refine (PG.out _ hM.out.2.1).mono ?_
            rintro e u1 ⟨rfl, h1, h2⟩
            have M1 : Hid (Own4 w u1 T (dropT T (fun l => l.fits a1 a2) 16) T T) := hM.out.n1 h1 h2
            clear h1 h2
            go_wp2_with fail
            refine (TA.out _ M1.out.2.2.1).mono ?_
            rintro e u2 ⟨rfl, h1, h2⟩
            have M2 : Hid (Own4 w u2 T (dropT T (fun l => l.fits a1 a2) 16) (dropT T (fun l => l.t == a1 && !l.g) 16) T) := M1.out.n2 h1 h2
            clear h1 h2 M1
            go_wp2_with fail
            refine (AL.out _ M2.out.2.2.2.1).mono ?_
            rintro e u3 ⟨rfl, h1, h2⟩
            have M3 : Hid (Own4 w u3 T (dropT T (fun l => l.fits a1 a2) 16) (dropT T (fun l => l.t == a1 && !l.g) 16) (dropT T (fun l => !true || !l.g) 16)) := M2.out.n3 h1 h2
            clear h1 h2 M2
            go_wp2_with fail
            refine (FA.out _ M3.out.2.1).mono ?_
            rintro e u4 ⟨rfl, hb⟩
            have M4 : Hid (Own4 w u4 T (dropT T (fun l => l.fits a1 a2) 16) (dropT T (fun l => l.t == a1 && !l.g) 16) (dropT T (fun l => !true || !l.g) 16)) := M3.out.grow hb
            clear hb M3
            go_wp2_with fail
            refine (FB.out _ (M4.out.grow (Go.Joins.below_alloc1 _ _)).2.2.1).mono ?_
            rintro e u5 ⟨rfl, hb⟩
            have M5 : Hid (Own4 w u5 T (dropT T (fun l => l.fits a1 a2) 16) (dropT T (fun l => l.t == a1 && !l.g) 16) (dropT T (fun l => !true || !l.g) 16)) := (M4.out.grow (Go.Joins.below_alloc1 _ _)).grow hb
            have lu4_5 : u4.heap.size < u5.heap.size := Nat.lt_of_lt_of_le (by simp) hb.size
            clear hb M4
            go_wp2_with fail
            refine (FC.out _ (M5.out.grow (Go.Joins.below_alloc1 _ _)).2.2.2.1).mono ?_
            rintro e u6 ⟨rfl, hb⟩
            have M6 : Hid (Own4 w u6 T (dropT T (fun l => l.fits a1 a2) 16) (dropT T (fun l => l.t == a1 && !l.g) 16) (dropT T (fun l => !true || !l.g) 16)) := (M5.out.grow (Go.Joins.below_alloc1 _ _)).grow hb
            have lu4_6 : u4.heap.size < u6.heap.size := Nat.lt_of_lt_of_le (by rw [World.size_alloc]; omega) hb.size
            have qu5_7_6 : u6.cell? ⟨u5.heap.size, 7, none⟩ = some (.bool false) := (hb.cell (p := ⟨u5.heap.size, 7, none⟩) (by simp)).trans (by simp)
            have lu5_6 : u5.heap.size < u6.heap.size := Nat.lt_of_lt_of_le (by simp) hb.size
            clear lu4_5 
            clear hb M5
            go_wp2_with fail
            refine (FZ.out _ (M6.out.grow (Go.Joins.below_alloc1 _ _)).1).mono ?_
            rintro e u7 ⟨rfl, hb⟩
            have B7 : Hid (w.heap.size < u7.heap.size) := Nat.lt_of_lt_of_le (Nat.lt_of_lt_of_le M6.out.1.2.2 (by simp)) hb.size
            have M7 : Hid (Own4 w u7 T (dropT T (fun l => l.fits a1 a2) 16) (dropT T (fun l => l.t == a1 && !l.g) 16) (dropT T (fun l => !true || !l.g) 16)) := (M6.out.grow (Go.Joins.below_alloc1 _ _)).grow hb
            have lu4_7 : u4.heap.size < u7.heap.size := Nat.lt_of_lt_of_le (by rw [World.size_alloc]; omega) hb.size
            have qu5_7_7 : u7.cell? ⟨u5.heap.size, 7, none⟩ = some (.bool false) := (hb.cell (p := ⟨u5.heap.size, 7, none⟩) (Nat.lt_of_lt_of_le lu5_6 (by rw [World.size_alloc]; omega))).trans ((World.cell?_alloc_lt _ _ _ (by exact lu5_6)).trans qu5_7_6)
            have lu5_7 : u5.heap.size < u7.heap.size := Nat.lt_of_lt_of_le (by rw [World.size_alloc]; omega) hb.size
            have qu6_7_7 : u7.cell? ⟨u6.heap.size, 7, none⟩ = some (.bool false) := (hb.cell (p := ⟨u6.heap.size, 7, none⟩) (by simp)).trans (by simp)
            have lu6_7 : u6.heap.size < u7.heap.size := Nat.lt_of_lt_of_le (by simp) hb.size
            clear lu4_6 
            clear lu5_6 qu5_7_6
            clear hb M6
            go_wp2_with fail
            refine (FK.out _ (M7.out.grow (Go.Joins.below_alloc1 _ _)).2.1).mono ?_
            rintro e u8 ⟨rfl, hb⟩
            have M8 : Hid (Own4 w u8 T (dropT T (fun l => l.fits a1 a2) 16) (dropT T (fun l => l.t == a1 && !l.g) 16) (dropT T (fun l => !true || !l.g) 16)) := (M7.out.grow (Go.Joins.below_alloc1 _ _)).grow hb
            have B8 : Hid (w.heap.size < u8.heap.size) := M8.out.1.2.2
            have qu7_0_8 : u8.cell? ⟨u7.heap.size, 0, none⟩ = some (.bool false) := (hb.cell (p := ⟨u7.heap.size, 0, none⟩) (by simp)).trans (by simp)
            have qu7_1_8 : u8.cell? ⟨u7.heap.size, 1, none⟩ = some (.int .i64 0) := (hb.cell (p := ⟨u7.heap.size, 1, none⟩) (by simp)).trans (by simp)
            have qu7_2_8 : u8.cell? ⟨u7.heap.size, 2, none⟩ = some (.int .i64 0) := (hb.cell (p := ⟨u7.heap.size, 2, none⟩) (by simp)).trans (by simp)
            have qu7_3_8 : u8.cell? ⟨u7.heap.size, 3, none⟩ = some (.int .i64 0) := (hb.cell (p := ⟨u7.heap.size, 3, none⟩) (by simp)).trans (by simp)
            have qu7_4_8 : u8.cell? ⟨u7.heap.size, 4, none⟩ = some (.bool false) := (hb.cell (p := ⟨u7.heap.size, 4, none⟩) (by simp)).trans (by simp)
            have qu7_5_8 : u8.cell? ⟨u7.heap.size, 5, none⟩ = some (.bool false) := (hb.cell (p := ⟨u7.heap.size, 5, none⟩) (by simp)).trans (by simp)
            have qu7_6_8 : u8.cell? ⟨u7.heap.size, 6, none⟩ = some (.bool false) := (hb.cell (p := ⟨u7.heap.size, 6, none⟩) (by simp)).trans (by simp)
            have qu7_7_8 : u8.cell? ⟨u7.heap.size, 7, none⟩ = some (.bool false) := (hb.cell (p := ⟨u7.heap.size, 7, none⟩) (by simp)).trans (by simp)
            have qu7_8_8 : u8.cell? ⟨u7.heap.size, 8, none⟩ = some (.bool false) := (hb.cell (p := ⟨u7.heap.size, 8, none⟩) (by simp)).trans (by simp)
            have lu7_8 : u7.heap.size < u8.heap.size := Nat.lt_of_lt_of_le (by simp) hb.size
            clear hb M7
            go_wp2_with fail
            refine (FF.out _ (M8.out.grow (Go.Joins.below_alloc1 _ _)).2.2.1).mono ?_
            rintro e u9 ⟨rfl, hb⟩
            have M9 : Hid (Own4 w u9 T (dropT T (fun l => l.fits a1 a2) 16) (dropT T (fun l => l.t == a1 && !l.g) 16) (dropT T (fun l => !true || !l.g) 16)) := (M8.out.grow (Go.Joins.below_alloc1 _ _)).grow hb
            have qu7_0_9 : u9.cell? ⟨u7.heap.size, 0, none⟩ = some (.bool false) := (hb.cell (p := ⟨u7.heap.size, 0, none⟩) (Nat.lt_of_lt_of_le lu7_8 (by rw [World.size_alloc]; omega))).trans ((World.cell?_alloc_lt _ _ _ (by exact lu7_8)).trans qu7_0_8)
            have qu7_1_9 : u9.cell? ⟨u7.heap.size, 1, none⟩ = some (.int .i64 0) := (hb.cell (p := ⟨u7.heap.size, 1, none⟩) (Nat.lt_of_lt_of_le lu7_8 (by rw [World.size_alloc]; omega))).trans ((World.cell?_alloc_lt _ _ _ (by exact lu7_8)).trans qu7_1_8)
            have qu7_2_9 : u9.cell? ⟨u7.heap.size, 2, none⟩ = some (.int .i64 0) := (hb.cell (p := ⟨u7.heap.size, 2, none⟩) (Nat.lt_of_lt_of_le lu7_8 (by rw [World.size_alloc]; omega))).trans ((World.cell?_alloc_lt _ _ _ (by exact lu7_8)).trans qu7_2_8)
            have qu7_3_9 : u9.cell? ⟨u7.heap.size, 3, none⟩ = some (.int .i64 0) := (hb.cell (p := ⟨u7.heap.size, 3, none⟩) (Nat.lt_of_lt_of_le lu7_8 (by rw [World.size_alloc]; omega))).trans ((World.cell?_alloc_lt _ _ _ (by exact lu7_8)).trans qu7_3_8)
            have qu7_4_9 : u9.cell? ⟨u7.heap.size, 4, none⟩ = some (.bool false) := (hb.cell (p := ⟨u7.heap.size, 4, none⟩) (Nat.lt_of_lt_of_le lu7_8 (by rw [World.size_alloc]; omega))).trans ((World.cell?_alloc_lt _ _ _ (by exact lu7_8)).trans qu7_4_8)
            have qu7_5_9 : u9.cell? ⟨u7.heap.size, 5, none⟩ = some (.bool false) := (hb.cell (p := ⟨u7.heap.size, 5, none⟩) (Nat.lt_of_lt_of_le lu7_8 (by rw [World.size_alloc]; omega))).trans ((World.cell?_alloc_lt _ _ _ (by exact lu7_8)).trans qu7_5_8)
            have qu7_6_9 : u9.cell? ⟨u7.heap.size, 6, none⟩ = some (.bool false) := (hb.cell (p := ⟨u7.heap.size, 6, none⟩) (Nat.lt_of_lt_of_le lu7_8 (by rw [World.size_alloc]; omega))).trans ((World.cell?_alloc_lt _ _ _ (by exact lu7_8)).trans qu7_6_8)
            have qu7_7_9 : u9.cell? ⟨u7.heap.size, 7, none⟩ = some (.bool false) := (hb.cell (p := ⟨u7.heap.size, 7, none⟩) (Nat.lt_of_lt_of_le lu7_8 (by rw [World.size_alloc]; omega))).trans ((World.cell?_alloc_lt _ _ _ (by exact lu7_8)).trans qu7_7_8)
            have qu7_8_9 : u9.cell? ⟨u7.heap.size, 8, none⟩ = some (.bool false) := (hb.cell (p := ⟨u7.heap.size, 8, none⟩) (Nat.lt_of_lt_of_le lu7_8 (by rw [World.size_alloc]; omega))).trans ((World.cell?_alloc_lt _ _ _ (by exact lu7_8)).trans qu7_8_8)
            have lu7_9 : u7.heap.size < u9.heap.size := Nat.lt_of_lt_of_le (by rw [World.size_alloc]; omega) hb.size
            have qu8_0_9 : u9.cell? ⟨u8.heap.size, 0, none⟩ = some (.bool false) := (hb.cell (p := ⟨u8.heap.size, 0, none⟩) (by simp)).trans (by simp)
            have qu8_1_9 : u9.cell? ⟨u8.heap.size, 1, none⟩ = some (.int .i64 0) := (hb.cell (p := ⟨u8.heap.size, 1, none⟩) (by simp)).trans (by simp)
            have qu8_2_9 : u9.cell? ⟨u8.heap.size, 2, none⟩ = some (.int .i64 0) := (hb.cell (p := ⟨u8.heap.size, 2, none⟩) (by simp)).trans (by simp)
            have qu8_3_9 : u9.cell? ⟨u8.heap.size, 3, none⟩ = some (.int .i64 0) := (hb.cell (p := ⟨u8.heap.size, 3, none⟩) (by simp)).trans (by simp)
            have qu8_4_9 : u9.cell? ⟨u8.heap.size, 4, none⟩ = some (.bool false) := (hb.cell (p := ⟨u8.heap.size, 4, none⟩) (by simp)).trans (by simp)
            have qu8_5_9 : u9.cell? ⟨u8.heap.size, 5, none⟩ = some (.bool false) := (hb.cell (p := ⟨u8.heap.size, 5, none⟩) (by simp)).trans (by simp)
            have qu8_6_9 : u9.cell? ⟨u8.heap.size, 6, none⟩ = some (.bool false) := (hb.cell (p := ⟨u8.heap.size, 6, none⟩) (by simp)).trans (by simp)
            have qu8_7_9 : u9.cell? ⟨u8.heap.size, 7, none⟩ = some (.bool false) := (hb.cell (p := ⟨u8.heap.size, 7, none⟩) (by simp)).trans (by simp)
            have qu8_8_9 : u9.cell? ⟨u8.heap.size, 8, none⟩ = some (.bool false) := (hb.cell (p := ⟨u8.heap.size, 8, none⟩) (by simp)).trans (by simp)
            have lu8_9 : u8.heap.size < u9.heap.size := Nat.lt_of_lt_of_le (by simp) hb.size
            clear lu7_8 qu7_0_8 qu7_1_8 qu7_2_8 qu7_3_8 qu7_4_8 qu7_5_8 qu7_6_8 qu7_7_8 qu7_8_8
            clear hb M8
            have lw9 : w.heap.size < u7.heap.size := by have := B7.out; omega
            have lw8 : w.heap.size < u8.heap.size := B8.out
            go_wp2_with fail
            refine (AX.out _ (M9.out.grow (Go.Joins.below_alloc1 _ _)).1).mono ?_
            rintro e u10 ⟨rfl, h1, h2⟩
            have M10 : Hid (Own4 w u10 (dropT T (fun l => !false || !l.g) 16) (dropT T (fun l => l.fits a1 a2) 16) (dropT T (fun l => l.t == a1 && !l.g) 16) (dropT T (fun l => !true || !l.g) 16)) := (M9.out.grow (Go.Joins.below_alloc1 _ _)).n0 h1 h2
            have qu7_0_10 : u10.cell? ⟨u7.heap.size, 0, none⟩ = some (.bool false) := cell_grown h2 (by rw [World.size_alloc]; omega) (by omega) ((World.cell?_alloc_lt _ _ _ (by exact lu7_9)).trans qu7_0_9)
            have qu7_1_10 : u10.cell? ⟨u7.heap.size, 1, none⟩ = some (.int .i64 0) := cell_grown h2 (by rw [World.size_alloc]; omega) (by omega) ((World.cell?_alloc_lt _ _ _ (by exact lu7_9)).trans qu7_1_9)
            have qu7_2_10 : u10.cell? ⟨u7.heap.size, 2, none⟩ = some (.int .i64 0) := cell_grown h2 (by rw [World.size_alloc]; omega) (by omega) ((World.cell?_alloc_lt _ _ _ (by exact lu7_9)).trans qu7_2_9)
            have qu7_3_10 : u10.cell? ⟨u7.heap.size, 3, none⟩ = some (.int .i64 0) := cell_grown h2 (by rw [World.size_alloc]; omega) (by omega) ((World.cell?_alloc_lt _ _ _ (by exact lu7_9)).trans qu7_3_9)
            have qu7_4_10 : u10.cell? ⟨u7.heap.size, 4, none⟩ = some (.bool false) := cell_grown h2 (by rw [World.size_alloc]; omega) (by omega) ((World.cell?_alloc_lt _ _ _ (by exact lu7_9)).trans qu7_4_9)
            have qu7_5_10 : u10.cell? ⟨u7.heap.size, 5, none⟩ = some (.bool false) := cell_grown h2 (by rw [World.size_alloc]; omega) (by omega) ((World.cell?_alloc_lt _ _ _ (by exact lu7_9)).trans qu7_5_9)
            have qu7_6_10 : u10.cell? ⟨u7.heap.size, 6, none⟩ = some (.bool false) := cell_grown h2 (by rw [World.size_alloc]; omega) (by omega) ((World.cell?_alloc_lt _ _ _ (by exact lu7_9)).trans qu7_6_9)
            have qu7_7_10 : u10.cell? ⟨u7.heap.size, 7, none⟩ = some (.bool false) := cell_grown h2 (by rw [World.size_alloc]; omega) (by omega) ((World.cell?_alloc_lt _ _ _ (by exact lu7_9)).trans qu7_7_9)
            have qu7_8_10 : u10.cell? ⟨u7.heap.size, 8, none⟩ = some (.bool false) := cell_grown h2 (by rw [World.size_alloc]; omega) (by omega) ((World.cell?_alloc_lt _ _ _ (by exact lu7_9)).trans qu7_8_9)
            have lu7_10 : u7.heap.size < u10.heap.size := Nat.lt_of_lt_of_le (by rw [World.size_alloc]; omega) h2.size
            have qu8_0_10 : u10.cell? ⟨u8.heap.size, 0, none⟩ = some (.bool false) := cell_grown h2 (by rw [World.size_alloc]; omega) (by omega) ((World.cell?_alloc_lt _ _ _ (by exact lu8_9)).trans qu8_0_9)
            have qu8_1_10 : u10.cell? ⟨u8.heap.size, 1, none⟩ = some (.int .i64 0) := cell_grown h2 (by rw [World.size_alloc]; omega) (by omega) ((World.cell?_alloc_lt _ _ _ (by exact lu8_9)).trans qu8_1_9)
            have qu8_2_10 : u10.cell? ⟨u8.heap.size, 2, none⟩ = some (.int .i64 0) := cell_grown h2 (by rw [World.size_alloc]; omega) (by omega) ((World.cell?_alloc_lt _ _ _ (by exact lu8_9)).trans qu8_2_9)
            have qu8_3_10 : u10.cell? ⟨u8.heap.size, 3, none⟩ = some (.int .i64 0) := cell_grown h2 (by rw [World.size_alloc]; omega) (by omega) ((World.cell?_alloc_lt _ _ _ (by exact lu8_9)).trans qu8_3_9)
            have qu8_4_10 : u10.cell? ⟨u8.heap.size, 4, none⟩ = some (.bool false) := cell_grown h2 (by rw [World.size_alloc]; omega) (by omega) ((World.cell?_alloc_lt _ _ _ (by exact lu8_9)).trans qu8_4_9)
            have qu8_5_10 : u10.cell? ⟨u8.heap.size, 5, none⟩ = some (.bool false) := cell_grown h2 (by rw [World.size_alloc]; omega) (by omega) ((World.cell?_alloc_lt _ _ _ (by exact lu8_9)).trans qu8_5_9)
            have qu8_6_10 : u10.cell? ⟨u8.heap.size, 6, none⟩ = some (.bool false) := cell_grown h2 (by rw [World.size_alloc]; omega) (by omega) ((World.cell?_alloc_lt _ _ _ (by exact lu8_9)).trans qu8_6_9)
            have qu8_7_10 : u10.cell? ⟨u8.heap.size, 7, none⟩ = some (.bool false) := cell_grown h2 (by rw [World.size_alloc]; omega) (by omega) ((World.cell?_alloc_lt _ _ _ (by exact lu8_9)).trans qu8_7_9)
            have qu8_8_10 : u10.cell? ⟨u8.heap.size, 8, none⟩ = some (.bool false) := cell_grown h2 (by rw [World.size_alloc]; omega) (by omega) ((World.cell?_alloc_lt _ _ _ (by exact lu8_9)).trans qu8_8_9)
            have lu8_10 : u8.heap.size < u10.heap.size := Nat.lt_of_lt_of_le (by rw [World.size_alloc]; omega) h2.size
            clear lu7_9 qu7_0_9 qu7_1_9 qu7_2_9 qu7_3_9 qu7_4_9 qu7_5_9 qu7_6_9 qu7_7_9 qu7_8_9
            clear lu8_9 qu8_0_9 qu8_1_9 qu8_2_9 qu8_3_9 qu8_4_9 qu8_5_9 qu8_6_9 qu8_7_9 qu8_8_9
            clear h1 h2 M9
            go_wp2_with fail
            refine (AW.out _).mono ?_
            rintro e u11 ⟨rfl, hb⟩
            have M11 : Hid (Own4 w u11 (dropT T (fun l => !false || !l.g) 16) (dropT T (fun l => l.fits a1 a2) 16) (dropT T (fun l => l.t == a1 && !l.g) 16) (dropT T (fun l => !true || !l.g) 16)) := M10.out.grow hb
            have qu7_0_11 : u11.cell? ⟨u7.heap.size, 0, none⟩ = some (.bool false) := (hb.cell (p := ⟨u7.heap.size, 0, none⟩) lu7_10).trans qu7_0_10
            have qu7_1_11 : u11.cell? ⟨u7.heap.size, 1, none⟩ = some (.int .i64 0) := (hb.cell (p := ⟨u7.heap.size, 1, none⟩) lu7_10).trans qu7_1_10
            have qu7_2_11 : u11.cell? ⟨u7.heap.size, 2, none⟩ = some (.int .i64 0) := (hb.cell (p := ⟨u7.heap.size, 2, none⟩) lu7_10).trans qu7_2_10
            have qu7_3_11 : u11.cell? ⟨u7.heap.size, 3, none⟩ = some (.int .i64 0) := (hb.cell (p := ⟨u7.heap.size, 3, none⟩) lu7_10).trans qu7_3_10
            have qu7_4_11 : u11.cell? ⟨u7.heap.size, 4, none⟩ = some (.bool false) := (hb.cell (p := ⟨u7.heap.size, 4, none⟩) lu7_10).trans qu7_4_10
            have qu7_5_11 : u11.cell? ⟨u7.heap.size, 5, none⟩ = some (.bool false) := (hb.cell (p := ⟨u7.heap.size, 5, none⟩) lu7_10).trans qu7_5_10
            have qu7_6_11 : u11.cell? ⟨u7.heap.size, 6, none⟩ = some (.bool false) := (hb.cell (p := ⟨u7.heap.size, 6, none⟩) lu7_10).trans qu7_6_10
            have qu7_7_11 : u11.cell? ⟨u7.heap.size, 7, none⟩ = some (.bool false) := (hb.cell (p := ⟨u7.heap.size, 7, none⟩) lu7_10).trans qu7_7_10
            have qu7_8_11 : u11.cell? ⟨u7.heap.size, 8, none⟩ = some (.bool false) := (hb.cell (p := ⟨u7.heap.size, 8, none⟩) lu7_10).trans qu7_8_10
            have lu7_11 : u7.heap.size < u11.heap.size := Nat.lt_of_lt_of_le lu7_10 hb.size
            have qu8_0_11 : u11.cell? ⟨u8.heap.size, 0, none⟩ = some (.bool false) := (hb.cell (p := ⟨u8.heap.size, 0, none⟩) lu8_10).trans qu8_0_10
            have qu8_1_11 : u11.cell? ⟨u8.heap.size, 1, none⟩ = some (.int .i64 0) := (hb.cell (p := ⟨u8.heap.size, 1, none⟩) lu8_10).trans qu8_1_10
            have qu8_2_11 : u11.cell? ⟨u8.heap.size, 2, none⟩ = some (.int .i64 0) := (hb.cell (p := ⟨u8.heap.size, 2, none⟩) lu8_10).trans qu8_2_10
            have qu8_3_11 : u11.cell? ⟨u8.heap.size, 3, none⟩ = some (.int .i64 0) := (hb.cell (p := ⟨u8.heap.size, 3, none⟩) lu8_10).trans qu8_3_10
            have qu8_4_11 : u11.cell? ⟨u8.heap.size, 4, none⟩ = some (.bool false) := (hb.cell (p := ⟨u8.heap.size, 4, none⟩) lu8_10).trans qu8_4_10
            have qu8_5_11 : u11.cell? ⟨u8.heap.size, 5, none⟩ = some (.bool false) := (hb.cell (p := ⟨u8.heap.size, 5, none⟩) lu8_10).trans qu8_5_10
            have qu8_6_11 : u11.cell? ⟨u8.heap.size, 6, none⟩ = some (.bool false) := (hb.cell (p := ⟨u8.heap.size, 6, none⟩) lu8_10).trans qu8_6_10
            have qu8_7_11 : u11.cell? ⟨u8.heap.size, 7, none⟩ = some (.bool false) := (hb.cell (p := ⟨u8.heap.size, 7, none⟩) lu8_10).trans qu8_7_10
            have qu8_8_11 : u11.cell? ⟨u8.heap.size, 8, none⟩ = some (.bool false) := (hb.cell (p := ⟨u8.heap.size, 8, none⟩) lu8_10).trans qu8_8_10
            have lu8_11 : u8.heap.size < u11.heap.size := Nat.lt_of_lt_of_le lu8_10 hb.size
            clear lu7_10 qu7_0_10 qu7_1_10 qu7_2_10 qu7_3_10 qu7_4_10 qu7_5_10 qu7_6_10 qu7_7_10 qu7_8_10
            clear lu8_10 qu8_0_10 qu8_1_10 qu8_2_10 qu8_3_10 qu8_4_10 qu8_5_10 qu8_6_10 qu8_7_10 qu8_8_10
            clear hb M10
            go_wp2_with fail
            refine (LN.out _ M11.out.1).mono ?_
            rintro e u12 ⟨⟨pl, cl, rfl⟩, hb⟩
            have M12 : Hid (Own4 w u12 (dropT T (fun l => !false || !l.g) 16) (dropT T (fun l => l.fits a1 a2) 16) (dropT T (fun l => l.t == a1 && !l.g) 16) (dropT T (fun l => !true || !l.g) 16)) := M11.out.grow hb
            clear hb
            go_wp2_with fail
            go_ret
            exact ⟨rfl, M12.out.2.2.2.2⟩
      · have fz := fits_says (rZ rfl)
        simp only at fz
        obtain ⟨fz1, fz2, fz3⟩ := fz
        subst fz2
        subst fz1
        cases zg
        · have zt0 : zt = a1 := by simpa using fz3
          have zt1 := zt0.symm
          clear zt0
          subst zt1
          by_cases hp : zp = a2
          · have eb : (zp == a2) = true := by simp [hp]
            have rK : Ln.fits ⟨true, a1, zp, zf, zw, zu, zx, false, zd⟩ a1 a2 = true := by rw [← hp]; exact rZ rfl
            clear fz3 rZ hp
            have FA : Hid (∀ W : World, IsTlb W (w.heap.size + 1) (dropT T (fun l => l.fits a1 a2) 16) → Calls Try.prog 13 #[.pointer (some ⟨(w.heap.size + 1), 0, none⟩), .int .i64 a1, .int .i64 a2] W fun e w' => e = .returned (.tuple #[.agg #[.bool false, .int .i64 0, .int .i64 0, .int .i64 0, .bool false, .bool false, .bool false, .bool false, .bool false], .bool false]) ∧ Below W.heap.size W w') := fun W h => by
              have := find_any (w.heap.size + 1) (dropT T (fun l => l.fits a1 a2) 16) a1 a2 W h
              rw [find_drop hG.out, rA] at this; exact this
            have FB : Hid (∀ W : World, IsTlb W (w.heap.size + 1 + 1) (dropT T (fun l => l.t == a1 && !l.g) 16) → Calls Try.prog 13 #[.pointer (some ⟨(w.heap.size + 1 + 1), 0, none⟩), .int .i64 a1, .int .i64 zp] W fun e w' => e = .returned (.tuple #[.agg #[.bool false, .int .i64 0, .int .i64 0, .int .i64 0, .bool false, .bool false, .bool false, .bool false, .bool false], .bool false]) ∧ Below W.heap.size W w') := fun W h => by
              have := find_any (w.heap.size + 1 + 1) (dropT T (fun l => l.t == a1 && !l.g) 16) a1 zp W h
              rw [find_drop hG.out, hz3, if_neg (by simp)] at this; exact this
            have FC : Hid (∀ W : World, IsTlb W (w.heap.size + 1 + 1 + 1) (dropT T (fun l => !true || !l.g) 16) → Calls Try.prog 13 #[.pointer (some ⟨(w.heap.size + 1 + 1 + 1), 0, none⟩), .int .i64 a1, .int .i64 zp] W fun e w' => e = .returned (.tuple #[.agg #[.bool false, .int .i64 0, .int .i64 0, .int .i64 0, .bool false, .bool false, .bool false, .bool false, .bool false], .bool false]) ∧ Below W.heap.size W w') := fun W h => by
              have := find_any (w.heap.size + 1 + 1 + 1) (dropT T (fun l => !true || !l.g) 16) a1 zp W h
              rw [find_drop hG.out, hz3, if_neg (by simp)] at this; exact this
            have FZ : Hid (∀ W : World, IsTlb W w.heap.size (T) → Calls Try.prog 13 #[.pointer (some ⟨w.heap.size, 0, none⟩), .int .i64 a1, .int .i64 zp] W fun e w' => e = .returned (.tuple #[.agg #[.bool true, .int .i64 a1, .int .i64 zp, .int .i64 zf, .bool zw, .bool zu, .bool zx, .bool false, .bool zd], .bool true]) ∧ Below W.heap.size W w') := fun W h => by
              have := find_any w.heap.size (T) a1 zp W h
              rw [hz3] at this; exact this
            have FK : Hid (∀ W : World, IsTlb W (w.heap.size + 1) (dropT T (fun l => l.fits a1 a2) 16) → Calls Try.prog 13 #[.pointer (some ⟨(w.heap.size + 1), 0, none⟩), .int .i64 a1, .int .i64 zp] W fun e w' => e = .returned (.tuple #[.agg #[.bool false, .int .i64 0, .int .i64 0, .int .i64 0, .bool false, .bool false, .bool false, .bool false, .bool false], .bool false]) ∧ Below W.heap.size W w') := fun W h => by
              have := find_any (w.heap.size + 1) (dropT T (fun l => l.fits a1 a2) 16) a1 zp W h
              rw [find_drop hG.out, hz3, if_neg (by simp [rK])] at this; exact this
            have FF : Hid (∀ W : World, IsTlb W (w.heap.size + 1 + 1) (dropT T (fun l => l.t == a1 && !l.g) 16) → Calls Try.prog 13 #[.pointer (some ⟨(w.heap.size + 1 + 1), 0, none⟩), .int .i64 a1, .int .i64 zp] W fun e w' => e = .returned (.tuple #[.agg #[.bool false, .int .i64 0, .int .i64 0, .int .i64 0, .bool false, .bool false, .bool false, .bool false, .bool false], .bool false]) ∧ Below W.heap.size W w') := fun W h => by
              have := find_any (w.heap.size + 1 + 1) (dropT T (fun l => l.t == a1 && !l.g) 16) a1 zp W h
              rw [find_drop hG.out, hz3, if_neg (by simp)] at this; exact this
            clear hG
            by_cases hq : k < n0
            · have hd : decide ((k : Int) < (n0 : Int)) = true := by simp; omega
              have hd2 : decide ((k : Int) < 60) = false := by simp; omega
              go_wp2_with fail
              refine (PG.out _ hM.out.2.1).mono ?_
              rintro e u1 ⟨rfl, h1, h2⟩
              have M1 : Hid (Own4 w u1 T (dropT T (fun l => l.fits a1 a2) 16) T T) := hM.out.n1 h1 h2
              clear h1 h2
              go_wp2_with fail
              refine (TA.out _ M1.out.2.2.1).mono ?_
              rintro e u2 ⟨rfl, h1, h2⟩
              have M2 : Hid (Own4 w u2 T (dropT T (fun l => l.fits a1 a2) 16) (dropT T (fun l => l.t == a1 && !l.g) 16) T) := M1.out.n2 h1 h2
              clear h1 h2 M1
              go_wp2_with fail
              refine (AL.out _ M2.out.2.2.2.1).mono ?_
              rintro e u3 ⟨rfl, h1, h2⟩
              have M3 : Hid (Own4 w u3 T (dropT T (fun l => l.fits a1 a2) 16) (dropT T (fun l => l.t == a1 && !l.g) 16) (dropT T (fun l => !true || !l.g) 16)) := M2.out.n3 h1 h2
              clear h1 h2 M2
              go_wp2_with fail
              refine (FA.out _ M3.out.2.1).mono ?_
              rintro e u4 ⟨rfl, hb⟩
              have M4 : Hid (Own4 w u4 T (dropT T (fun l => l.fits a1 a2) 16) (dropT T (fun l => l.t == a1 && !l.g) 16) (dropT T (fun l => !true || !l.g) 16)) := M3.out.grow hb
              clear hb M3
              go_wp2_with fail
              refine (FB.out _ (M4.out.grow (Go.Joins.below_alloc1 _ _)).2.2.1).mono ?_
              rintro e u5 ⟨rfl, hb⟩
              have M5 : Hid (Own4 w u5 T (dropT T (fun l => l.fits a1 a2) 16) (dropT T (fun l => l.t == a1 && !l.g) 16) (dropT T (fun l => !true || !l.g) 16)) := (M4.out.grow (Go.Joins.below_alloc1 _ _)).grow hb
              have lu4_5 : u4.heap.size < u5.heap.size := Nat.lt_of_lt_of_le (by simp) hb.size
              clear hb M4
              go_wp2_with fail
              refine (FC.out _ (M5.out.grow (Go.Joins.below_alloc1 _ _)).2.2.2.1).mono ?_
              rintro e u6 ⟨rfl, hb⟩
              have M6 : Hid (Own4 w u6 T (dropT T (fun l => l.fits a1 a2) 16) (dropT T (fun l => l.t == a1 && !l.g) 16) (dropT T (fun l => !true || !l.g) 16)) := (M5.out.grow (Go.Joins.below_alloc1 _ _)).grow hb
              have lu4_6 : u4.heap.size < u6.heap.size := Nat.lt_of_lt_of_le (by rw [World.size_alloc]; omega) hb.size
              have qu5_7_6 : u6.cell? ⟨u5.heap.size, 7, none⟩ = some (.bool false) := (hb.cell (p := ⟨u5.heap.size, 7, none⟩) (by simp)).trans (by simp)
              have lu5_6 : u5.heap.size < u6.heap.size := Nat.lt_of_lt_of_le (by simp) hb.size
              clear lu4_5 
              clear hb M5
              go_wp2_with fail
              refine (FZ.out _ (M6.out.grow (Go.Joins.below_alloc1 _ _)).1).mono ?_
              rintro e u7 ⟨rfl, hb⟩
              have B7 : Hid (w.heap.size < u7.heap.size) := Nat.lt_of_lt_of_le (Nat.lt_of_lt_of_le M6.out.1.2.2 (by simp)) hb.size
              have M7 : Hid (Own4 w u7 T (dropT T (fun l => l.fits a1 a2) 16) (dropT T (fun l => l.t == a1 && !l.g) 16) (dropT T (fun l => !true || !l.g) 16)) := (M6.out.grow (Go.Joins.below_alloc1 _ _)).grow hb
              have lu4_7 : u4.heap.size < u7.heap.size := Nat.lt_of_lt_of_le (by rw [World.size_alloc]; omega) hb.size
              have qu5_7_7 : u7.cell? ⟨u5.heap.size, 7, none⟩ = some (.bool false) := (hb.cell (p := ⟨u5.heap.size, 7, none⟩) (Nat.lt_of_lt_of_le lu5_6 (by rw [World.size_alloc]; omega))).trans ((World.cell?_alloc_lt _ _ _ (by exact lu5_6)).trans qu5_7_6)
              have lu5_7 : u5.heap.size < u7.heap.size := Nat.lt_of_lt_of_le (by rw [World.size_alloc]; omega) hb.size
              have qu6_7_7 : u7.cell? ⟨u6.heap.size, 7, none⟩ = some (.bool false) := (hb.cell (p := ⟨u6.heap.size, 7, none⟩) (by simp)).trans (by simp)
              have lu6_7 : u6.heap.size < u7.heap.size := Nat.lt_of_lt_of_le (by simp) hb.size
              clear lu4_6 
              clear lu5_6 qu5_7_6
              clear hb M6
              go_wp2_with fail
              refine (FK.out _ (M7.out.grow (Go.Joins.below_alloc1 _ _)).2.1).mono ?_
              rintro e u8 ⟨rfl, hb⟩
              have M8 : Hid (Own4 w u8 T (dropT T (fun l => l.fits a1 a2) 16) (dropT T (fun l => l.t == a1 && !l.g) 16) (dropT T (fun l => !true || !l.g) 16)) := (M7.out.grow (Go.Joins.below_alloc1 _ _)).grow hb
              have B8 : Hid (w.heap.size < u8.heap.size) := M8.out.1.2.2
              have qu7_0_8 : u8.cell? ⟨u7.heap.size, 0, none⟩ = some (.bool true) := (hb.cell (p := ⟨u7.heap.size, 0, none⟩) (by simp)).trans (by simp)
              have qu7_1_8 : u8.cell? ⟨u7.heap.size, 1, none⟩ = some (.int .i64 a1) := (hb.cell (p := ⟨u7.heap.size, 1, none⟩) (by simp)).trans (by simp)
              have qu7_2_8 : u8.cell? ⟨u7.heap.size, 2, none⟩ = some (.int .i64 zp) := (hb.cell (p := ⟨u7.heap.size, 2, none⟩) (by simp)).trans (by simp)
              have qu7_3_8 : u8.cell? ⟨u7.heap.size, 3, none⟩ = some (.int .i64 zf) := (hb.cell (p := ⟨u7.heap.size, 3, none⟩) (by simp)).trans (by simp)
              have qu7_4_8 : u8.cell? ⟨u7.heap.size, 4, none⟩ = some (.bool zw) := (hb.cell (p := ⟨u7.heap.size, 4, none⟩) (by simp)).trans (by simp)
              have qu7_5_8 : u8.cell? ⟨u7.heap.size, 5, none⟩ = some (.bool zu) := (hb.cell (p := ⟨u7.heap.size, 5, none⟩) (by simp)).trans (by simp)
              have qu7_6_8 : u8.cell? ⟨u7.heap.size, 6, none⟩ = some (.bool zx) := (hb.cell (p := ⟨u7.heap.size, 6, none⟩) (by simp)).trans (by simp)
              have qu7_7_8 : u8.cell? ⟨u7.heap.size, 7, none⟩ = some (.bool false) := (hb.cell (p := ⟨u7.heap.size, 7, none⟩) (by simp)).trans (by simp)
              have qu7_8_8 : u8.cell? ⟨u7.heap.size, 8, none⟩ = some (.bool zd) := (hb.cell (p := ⟨u7.heap.size, 8, none⟩) (by simp)).trans (by simp)
              have lu7_8 : u7.heap.size < u8.heap.size := Nat.lt_of_lt_of_le (by simp) hb.size
              clear hb M7
              go_wp2_with fail
              refine (FF.out _ (M8.out.grow (Go.Joins.below_alloc1 _ _)).2.2.1).mono ?_
              rintro e u9 ⟨rfl, hb⟩
              have M9 : Hid (Own4 w u9 T (dropT T (fun l => l.fits a1 a2) 16) (dropT T (fun l => l.t == a1 && !l.g) 16) (dropT T (fun l => !true || !l.g) 16)) := (M8.out.grow (Go.Joins.below_alloc1 _ _)).grow hb
              have qu7_0_9 : u9.cell? ⟨u7.heap.size, 0, none⟩ = some (.bool true) := (hb.cell (p := ⟨u7.heap.size, 0, none⟩) (Nat.lt_of_lt_of_le lu7_8 (by rw [World.size_alloc]; omega))).trans ((World.cell?_alloc_lt _ _ _ (by exact lu7_8)).trans qu7_0_8)
              have qu7_1_9 : u9.cell? ⟨u7.heap.size, 1, none⟩ = some (.int .i64 a1) := (hb.cell (p := ⟨u7.heap.size, 1, none⟩) (Nat.lt_of_lt_of_le lu7_8 (by rw [World.size_alloc]; omega))).trans ((World.cell?_alloc_lt _ _ _ (by exact lu7_8)).trans qu7_1_8)
              have qu7_2_9 : u9.cell? ⟨u7.heap.size, 2, none⟩ = some (.int .i64 zp) := (hb.cell (p := ⟨u7.heap.size, 2, none⟩) (Nat.lt_of_lt_of_le lu7_8 (by rw [World.size_alloc]; omega))).trans ((World.cell?_alloc_lt _ _ _ (by exact lu7_8)).trans qu7_2_8)
              have qu7_3_9 : u9.cell? ⟨u7.heap.size, 3, none⟩ = some (.int .i64 zf) := (hb.cell (p := ⟨u7.heap.size, 3, none⟩) (Nat.lt_of_lt_of_le lu7_8 (by rw [World.size_alloc]; omega))).trans ((World.cell?_alloc_lt _ _ _ (by exact lu7_8)).trans qu7_3_8)
              have qu7_4_9 : u9.cell? ⟨u7.heap.size, 4, none⟩ = some (.bool zw) := (hb.cell (p := ⟨u7.heap.size, 4, none⟩) (Nat.lt_of_lt_of_le lu7_8 (by rw [World.size_alloc]; omega))).trans ((World.cell?_alloc_lt _ _ _ (by exact lu7_8)).trans qu7_4_8)
              have qu7_5_9 : u9.cell? ⟨u7.heap.size, 5, none⟩ = some (.bool zu) := (hb.cell (p := ⟨u7.heap.size, 5, none⟩) (Nat.lt_of_lt_of_le lu7_8 (by rw [World.size_alloc]; omega))).trans ((World.cell?_alloc_lt _ _ _ (by exact lu7_8)).trans qu7_5_8)
              have qu7_6_9 : u9.cell? ⟨u7.heap.size, 6, none⟩ = some (.bool zx) := (hb.cell (p := ⟨u7.heap.size, 6, none⟩) (Nat.lt_of_lt_of_le lu7_8 (by rw [World.size_alloc]; omega))).trans ((World.cell?_alloc_lt _ _ _ (by exact lu7_8)).trans qu7_6_8)
              have qu7_7_9 : u9.cell? ⟨u7.heap.size, 7, none⟩ = some (.bool false) := (hb.cell (p := ⟨u7.heap.size, 7, none⟩) (Nat.lt_of_lt_of_le lu7_8 (by rw [World.size_alloc]; omega))).trans ((World.cell?_alloc_lt _ _ _ (by exact lu7_8)).trans qu7_7_8)
              have qu7_8_9 : u9.cell? ⟨u7.heap.size, 8, none⟩ = some (.bool zd) := (hb.cell (p := ⟨u7.heap.size, 8, none⟩) (Nat.lt_of_lt_of_le lu7_8 (by rw [World.size_alloc]; omega))).trans ((World.cell?_alloc_lt _ _ _ (by exact lu7_8)).trans qu7_8_8)
              have lu7_9 : u7.heap.size < u9.heap.size := Nat.lt_of_lt_of_le (by rw [World.size_alloc]; omega) hb.size
              have qu8_0_9 : u9.cell? ⟨u8.heap.size, 0, none⟩ = some (.bool false) := (hb.cell (p := ⟨u8.heap.size, 0, none⟩) (by simp)).trans (by simp)
              have qu8_1_9 : u9.cell? ⟨u8.heap.size, 1, none⟩ = some (.int .i64 0) := (hb.cell (p := ⟨u8.heap.size, 1, none⟩) (by simp)).trans (by simp)
              have qu8_2_9 : u9.cell? ⟨u8.heap.size, 2, none⟩ = some (.int .i64 0) := (hb.cell (p := ⟨u8.heap.size, 2, none⟩) (by simp)).trans (by simp)
              have qu8_3_9 : u9.cell? ⟨u8.heap.size, 3, none⟩ = some (.int .i64 0) := (hb.cell (p := ⟨u8.heap.size, 3, none⟩) (by simp)).trans (by simp)
              have qu8_4_9 : u9.cell? ⟨u8.heap.size, 4, none⟩ = some (.bool false) := (hb.cell (p := ⟨u8.heap.size, 4, none⟩) (by simp)).trans (by simp)
              have qu8_5_9 : u9.cell? ⟨u8.heap.size, 5, none⟩ = some (.bool false) := (hb.cell (p := ⟨u8.heap.size, 5, none⟩) (by simp)).trans (by simp)
              have qu8_6_9 : u9.cell? ⟨u8.heap.size, 6, none⟩ = some (.bool false) := (hb.cell (p := ⟨u8.heap.size, 6, none⟩) (by simp)).trans (by simp)
              have qu8_7_9 : u9.cell? ⟨u8.heap.size, 7, none⟩ = some (.bool false) := (hb.cell (p := ⟨u8.heap.size, 7, none⟩) (by simp)).trans (by simp)
              have qu8_8_9 : u9.cell? ⟨u8.heap.size, 8, none⟩ = some (.bool false) := (hb.cell (p := ⟨u8.heap.size, 8, none⟩) (by simp)).trans (by simp)
              have lu8_9 : u8.heap.size < u9.heap.size := Nat.lt_of_lt_of_le (by simp) hb.size
              clear lu7_8 qu7_0_8 qu7_1_8 qu7_2_8 qu7_3_8 qu7_4_8 qu7_5_8 qu7_6_8 qu7_7_8 qu7_8_8
              clear hb M8
              have lw9 : w.heap.size < u7.heap.size := by have := B7.out; omega
              have lw8 : w.heap.size < u8.heap.size := B8.out
              go_wp2_with fail
              refine (AX.out _ (M9.out.grow (Go.Joins.below_alloc1 _ _)).1).mono ?_
              rintro e u10 ⟨rfl, h1, h2⟩
              have M10 : Hid (Own4 w u10 (dropT T (fun l => !false || !l.g) 16) (dropT T (fun l => l.fits a1 a2) 16) (dropT T (fun l => l.t == a1 && !l.g) 16) (dropT T (fun l => !true || !l.g) 16)) := (M9.out.grow (Go.Joins.below_alloc1 _ _)).n0 h1 h2
              have qu7_0_10 : u10.cell? ⟨u7.heap.size, 0, none⟩ = some (.bool true) := cell_grown h2 (by rw [World.size_alloc]; omega) (by omega) ((World.cell?_alloc_lt _ _ _ (by exact lu7_9)).trans qu7_0_9)
              have qu7_1_10 : u10.cell? ⟨u7.heap.size, 1, none⟩ = some (.int .i64 a1) := cell_grown h2 (by rw [World.size_alloc]; omega) (by omega) ((World.cell?_alloc_lt _ _ _ (by exact lu7_9)).trans qu7_1_9)
              have qu7_2_10 : u10.cell? ⟨u7.heap.size, 2, none⟩ = some (.int .i64 zp) := cell_grown h2 (by rw [World.size_alloc]; omega) (by omega) ((World.cell?_alloc_lt _ _ _ (by exact lu7_9)).trans qu7_2_9)
              have qu7_3_10 : u10.cell? ⟨u7.heap.size, 3, none⟩ = some (.int .i64 zf) := cell_grown h2 (by rw [World.size_alloc]; omega) (by omega) ((World.cell?_alloc_lt _ _ _ (by exact lu7_9)).trans qu7_3_9)
              have qu7_4_10 : u10.cell? ⟨u7.heap.size, 4, none⟩ = some (.bool zw) := cell_grown h2 (by rw [World.size_alloc]; omega) (by omega) ((World.cell?_alloc_lt _ _ _ (by exact lu7_9)).trans qu7_4_9)
              have qu7_5_10 : u10.cell? ⟨u7.heap.size, 5, none⟩ = some (.bool zu) := cell_grown h2 (by rw [World.size_alloc]; omega) (by omega) ((World.cell?_alloc_lt _ _ _ (by exact lu7_9)).trans qu7_5_9)
              have qu7_6_10 : u10.cell? ⟨u7.heap.size, 6, none⟩ = some (.bool zx) := cell_grown h2 (by rw [World.size_alloc]; omega) (by omega) ((World.cell?_alloc_lt _ _ _ (by exact lu7_9)).trans qu7_6_9)
              have qu7_7_10 : u10.cell? ⟨u7.heap.size, 7, none⟩ = some (.bool false) := cell_grown h2 (by rw [World.size_alloc]; omega) (by omega) ((World.cell?_alloc_lt _ _ _ (by exact lu7_9)).trans qu7_7_9)
              have qu7_8_10 : u10.cell? ⟨u7.heap.size, 8, none⟩ = some (.bool zd) := cell_grown h2 (by rw [World.size_alloc]; omega) (by omega) ((World.cell?_alloc_lt _ _ _ (by exact lu7_9)).trans qu7_8_9)
              have lu7_10 : u7.heap.size < u10.heap.size := Nat.lt_of_lt_of_le (by rw [World.size_alloc]; omega) h2.size
              have qu8_0_10 : u10.cell? ⟨u8.heap.size, 0, none⟩ = some (.bool false) := cell_grown h2 (by rw [World.size_alloc]; omega) (by omega) ((World.cell?_alloc_lt _ _ _ (by exact lu8_9)).trans qu8_0_9)
              have qu8_1_10 : u10.cell? ⟨u8.heap.size, 1, none⟩ = some (.int .i64 0) := cell_grown h2 (by rw [World.size_alloc]; omega) (by omega) ((World.cell?_alloc_lt _ _ _ (by exact lu8_9)).trans qu8_1_9)
              have qu8_2_10 : u10.cell? ⟨u8.heap.size, 2, none⟩ = some (.int .i64 0) := cell_grown h2 (by rw [World.size_alloc]; omega) (by omega) ((World.cell?_alloc_lt _ _ _ (by exact lu8_9)).trans qu8_2_9)
              have qu8_3_10 : u10.cell? ⟨u8.heap.size, 3, none⟩ = some (.int .i64 0) := cell_grown h2 (by rw [World.size_alloc]; omega) (by omega) ((World.cell?_alloc_lt _ _ _ (by exact lu8_9)).trans qu8_3_9)
              have qu8_4_10 : u10.cell? ⟨u8.heap.size, 4, none⟩ = some (.bool false) := cell_grown h2 (by rw [World.size_alloc]; omega) (by omega) ((World.cell?_alloc_lt _ _ _ (by exact lu8_9)).trans qu8_4_9)
              have qu8_5_10 : u10.cell? ⟨u8.heap.size, 5, none⟩ = some (.bool false) := cell_grown h2 (by rw [World.size_alloc]; omega) (by omega) ((World.cell?_alloc_lt _ _ _ (by exact lu8_9)).trans qu8_5_9)
              have qu8_6_10 : u10.cell? ⟨u8.heap.size, 6, none⟩ = some (.bool false) := cell_grown h2 (by rw [World.size_alloc]; omega) (by omega) ((World.cell?_alloc_lt _ _ _ (by exact lu8_9)).trans qu8_6_9)
              have qu8_7_10 : u10.cell? ⟨u8.heap.size, 7, none⟩ = some (.bool false) := cell_grown h2 (by rw [World.size_alloc]; omega) (by omega) ((World.cell?_alloc_lt _ _ _ (by exact lu8_9)).trans qu8_7_9)
              have qu8_8_10 : u10.cell? ⟨u8.heap.size, 8, none⟩ = some (.bool false) := cell_grown h2 (by rw [World.size_alloc]; omega) (by omega) ((World.cell?_alloc_lt _ _ _ (by exact lu8_9)).trans qu8_8_9)
              have lu8_10 : u8.heap.size < u10.heap.size := Nat.lt_of_lt_of_le (by rw [World.size_alloc]; omega) h2.size
              clear lu7_9 qu7_0_9 qu7_1_9 qu7_2_9 qu7_3_9 qu7_4_9 qu7_5_9 qu7_6_9 qu7_7_9 qu7_8_9
              clear lu8_9 qu8_0_9 qu8_1_9 qu8_2_9 qu8_3_9 qu8_4_9 qu8_5_9 qu8_6_9 qu8_7_9 qu8_8_9
              clear h1 h2 M9
              go_wp2_with fail
              refine (AW.out _).mono ?_
              rintro e u11 ⟨rfl, hb⟩
              have M11 : Hid (Own4 w u11 (dropT T (fun l => !false || !l.g) 16) (dropT T (fun l => l.fits a1 a2) 16) (dropT T (fun l => l.t == a1 && !l.g) 16) (dropT T (fun l => !true || !l.g) 16)) := M10.out.grow hb
              have qu7_0_11 : u11.cell? ⟨u7.heap.size, 0, none⟩ = some (.bool true) := (hb.cell (p := ⟨u7.heap.size, 0, none⟩) lu7_10).trans qu7_0_10
              have qu7_1_11 : u11.cell? ⟨u7.heap.size, 1, none⟩ = some (.int .i64 a1) := (hb.cell (p := ⟨u7.heap.size, 1, none⟩) lu7_10).trans qu7_1_10
              have qu7_2_11 : u11.cell? ⟨u7.heap.size, 2, none⟩ = some (.int .i64 zp) := (hb.cell (p := ⟨u7.heap.size, 2, none⟩) lu7_10).trans qu7_2_10
              have qu7_3_11 : u11.cell? ⟨u7.heap.size, 3, none⟩ = some (.int .i64 zf) := (hb.cell (p := ⟨u7.heap.size, 3, none⟩) lu7_10).trans qu7_3_10
              have qu7_4_11 : u11.cell? ⟨u7.heap.size, 4, none⟩ = some (.bool zw) := (hb.cell (p := ⟨u7.heap.size, 4, none⟩) lu7_10).trans qu7_4_10
              have qu7_5_11 : u11.cell? ⟨u7.heap.size, 5, none⟩ = some (.bool zu) := (hb.cell (p := ⟨u7.heap.size, 5, none⟩) lu7_10).trans qu7_5_10
              have qu7_6_11 : u11.cell? ⟨u7.heap.size, 6, none⟩ = some (.bool zx) := (hb.cell (p := ⟨u7.heap.size, 6, none⟩) lu7_10).trans qu7_6_10
              have qu7_7_11 : u11.cell? ⟨u7.heap.size, 7, none⟩ = some (.bool false) := (hb.cell (p := ⟨u7.heap.size, 7, none⟩) lu7_10).trans qu7_7_10
              have qu7_8_11 : u11.cell? ⟨u7.heap.size, 8, none⟩ = some (.bool zd) := (hb.cell (p := ⟨u7.heap.size, 8, none⟩) lu7_10).trans qu7_8_10
              have lu7_11 : u7.heap.size < u11.heap.size := Nat.lt_of_lt_of_le lu7_10 hb.size
              have qu8_0_11 : u11.cell? ⟨u8.heap.size, 0, none⟩ = some (.bool false) := (hb.cell (p := ⟨u8.heap.size, 0, none⟩) lu8_10).trans qu8_0_10
              have qu8_1_11 : u11.cell? ⟨u8.heap.size, 1, none⟩ = some (.int .i64 0) := (hb.cell (p := ⟨u8.heap.size, 1, none⟩) lu8_10).trans qu8_1_10
              have qu8_2_11 : u11.cell? ⟨u8.heap.size, 2, none⟩ = some (.int .i64 0) := (hb.cell (p := ⟨u8.heap.size, 2, none⟩) lu8_10).trans qu8_2_10
              have qu8_3_11 : u11.cell? ⟨u8.heap.size, 3, none⟩ = some (.int .i64 0) := (hb.cell (p := ⟨u8.heap.size, 3, none⟩) lu8_10).trans qu8_3_10
              have qu8_4_11 : u11.cell? ⟨u8.heap.size, 4, none⟩ = some (.bool false) := (hb.cell (p := ⟨u8.heap.size, 4, none⟩) lu8_10).trans qu8_4_10
              have qu8_5_11 : u11.cell? ⟨u8.heap.size, 5, none⟩ = some (.bool false) := (hb.cell (p := ⟨u8.heap.size, 5, none⟩) lu8_10).trans qu8_5_10
              have qu8_6_11 : u11.cell? ⟨u8.heap.size, 6, none⟩ = some (.bool false) := (hb.cell (p := ⟨u8.heap.size, 6, none⟩) lu8_10).trans qu8_6_10
              have qu8_7_11 : u11.cell? ⟨u8.heap.size, 7, none⟩ = some (.bool false) := (hb.cell (p := ⟨u8.heap.size, 7, none⟩) lu8_10).trans qu8_7_10
              have qu8_8_11 : u11.cell? ⟨u8.heap.size, 8, none⟩ = some (.bool false) := (hb.cell (p := ⟨u8.heap.size, 8, none⟩) lu8_10).trans qu8_8_10
              have lu8_11 : u8.heap.size < u11.heap.size := Nat.lt_of_lt_of_le lu8_10 hb.size
              clear lu7_10 qu7_0_10 qu7_1_10 qu7_2_10 qu7_3_10 qu7_4_10 qu7_5_10 qu7_6_10 qu7_7_10 qu7_8_10
              clear lu8_10 qu8_0_10 qu8_1_10 qu8_2_10 qu8_3_10 qu8_4_10 qu8_5_10 qu8_6_10 qu8_7_10 qu8_8_10
              clear hb M10
              go_wp2_with fail
              refine (LN.out _ M11.out.1).mono ?_
              rintro e u12 ⟨⟨pl, cl, rfl⟩, hb⟩
              have M12 : Hid (Own4 w u12 (dropT T (fun l => !false || !l.g) 16) (dropT T (fun l => l.fits a1 a2) 16) (dropT T (fun l => l.t == a1 && !l.g) 16) (dropT T (fun l => !true || !l.g) 16)) := M11.out.grow hb
              clear hb
              go_wp2_with fail
              go_ret
              exact ⟨rfl, M12.out.2.2.2.2⟩
            · have hd : decide ((k : Int) < (n0 : Int)) = false := by simp; omega
              go_wp2_with fail
              refine (PG.out _ hM.out.2.1).mono ?_
              rintro e u1 ⟨rfl, h1, h2⟩
              have M1 : Hid (Own4 w u1 T (dropT T (fun l => l.fits a1 a2) 16) T T) := hM.out.n1 h1 h2
              clear h1 h2
              go_wp2_with fail
              refine (TA.out _ M1.out.2.2.1).mono ?_
              rintro e u2 ⟨rfl, h1, h2⟩
              have M2 : Hid (Own4 w u2 T (dropT T (fun l => l.fits a1 a2) 16) (dropT T (fun l => l.t == a1 && !l.g) 16) T) := M1.out.n2 h1 h2
              clear h1 h2 M1
              go_wp2_with fail
              refine (AL.out _ M2.out.2.2.2.1).mono ?_
              rintro e u3 ⟨rfl, h1, h2⟩
              have M3 : Hid (Own4 w u3 T (dropT T (fun l => l.fits a1 a2) 16) (dropT T (fun l => l.t == a1 && !l.g) 16) (dropT T (fun l => !true || !l.g) 16)) := M2.out.n3 h1 h2
              clear h1 h2 M2
              go_wp2_with fail
              refine (FA.out _ M3.out.2.1).mono ?_
              rintro e u4 ⟨rfl, hb⟩
              have M4 : Hid (Own4 w u4 T (dropT T (fun l => l.fits a1 a2) 16) (dropT T (fun l => l.t == a1 && !l.g) 16) (dropT T (fun l => !true || !l.g) 16)) := M3.out.grow hb
              clear hb M3
              go_wp2_with fail
              refine (FB.out _ (M4.out.grow (Go.Joins.below_alloc1 _ _)).2.2.1).mono ?_
              rintro e u5 ⟨rfl, hb⟩
              have M5 : Hid (Own4 w u5 T (dropT T (fun l => l.fits a1 a2) 16) (dropT T (fun l => l.t == a1 && !l.g) 16) (dropT T (fun l => !true || !l.g) 16)) := (M4.out.grow (Go.Joins.below_alloc1 _ _)).grow hb
              have lu4_5 : u4.heap.size < u5.heap.size := Nat.lt_of_lt_of_le (by simp) hb.size
              clear hb M4
              go_wp2_with fail
              refine (FC.out _ (M5.out.grow (Go.Joins.below_alloc1 _ _)).2.2.2.1).mono ?_
              rintro e u6 ⟨rfl, hb⟩
              have M6 : Hid (Own4 w u6 T (dropT T (fun l => l.fits a1 a2) 16) (dropT T (fun l => l.t == a1 && !l.g) 16) (dropT T (fun l => !true || !l.g) 16)) := (M5.out.grow (Go.Joins.below_alloc1 _ _)).grow hb
              have lu4_6 : u4.heap.size < u6.heap.size := Nat.lt_of_lt_of_le (by rw [World.size_alloc]; omega) hb.size
              have qu5_7_6 : u6.cell? ⟨u5.heap.size, 7, none⟩ = some (.bool false) := (hb.cell (p := ⟨u5.heap.size, 7, none⟩) (by simp)).trans (by simp)
              have lu5_6 : u5.heap.size < u6.heap.size := Nat.lt_of_lt_of_le (by simp) hb.size
              clear lu4_5 
              clear hb M5
              go_wp2_with fail
              refine (FZ.out _ (M6.out.grow (Go.Joins.below_alloc1 _ _)).1).mono ?_
              rintro e u7 ⟨rfl, hb⟩
              have B7 : Hid (w.heap.size < u7.heap.size) := Nat.lt_of_lt_of_le (Nat.lt_of_lt_of_le M6.out.1.2.2 (by simp)) hb.size
              have M7 : Hid (Own4 w u7 T (dropT T (fun l => l.fits a1 a2) 16) (dropT T (fun l => l.t == a1 && !l.g) 16) (dropT T (fun l => !true || !l.g) 16)) := (M6.out.grow (Go.Joins.below_alloc1 _ _)).grow hb
              have lu4_7 : u4.heap.size < u7.heap.size := Nat.lt_of_lt_of_le (by rw [World.size_alloc]; omega) hb.size
              have qu5_7_7 : u7.cell? ⟨u5.heap.size, 7, none⟩ = some (.bool false) := (hb.cell (p := ⟨u5.heap.size, 7, none⟩) (Nat.lt_of_lt_of_le lu5_6 (by rw [World.size_alloc]; omega))).trans ((World.cell?_alloc_lt _ _ _ (by exact lu5_6)).trans qu5_7_6)
              have lu5_7 : u5.heap.size < u7.heap.size := Nat.lt_of_lt_of_le (by rw [World.size_alloc]; omega) hb.size
              have qu6_7_7 : u7.cell? ⟨u6.heap.size, 7, none⟩ = some (.bool false) := (hb.cell (p := ⟨u6.heap.size, 7, none⟩) (by simp)).trans (by simp)
              have lu6_7 : u6.heap.size < u7.heap.size := Nat.lt_of_lt_of_le (by simp) hb.size
              clear lu4_6 
              clear lu5_6 qu5_7_6
              clear hb M6
              go_wp2_with fail
              refine (FK.out _ (M7.out.grow (Go.Joins.below_alloc1 _ _)).2.1).mono ?_
              rintro e u8 ⟨rfl, hb⟩
              have M8 : Hid (Own4 w u8 T (dropT T (fun l => l.fits a1 a2) 16) (dropT T (fun l => l.t == a1 && !l.g) 16) (dropT T (fun l => !true || !l.g) 16)) := (M7.out.grow (Go.Joins.below_alloc1 _ _)).grow hb
              have B8 : Hid (w.heap.size < u8.heap.size) := M8.out.1.2.2
              have qu7_0_8 : u8.cell? ⟨u7.heap.size, 0, none⟩ = some (.bool true) := (hb.cell (p := ⟨u7.heap.size, 0, none⟩) (by simp)).trans (by simp)
              have qu7_1_8 : u8.cell? ⟨u7.heap.size, 1, none⟩ = some (.int .i64 a1) := (hb.cell (p := ⟨u7.heap.size, 1, none⟩) (by simp)).trans (by simp)
              have qu7_2_8 : u8.cell? ⟨u7.heap.size, 2, none⟩ = some (.int .i64 zp) := (hb.cell (p := ⟨u7.heap.size, 2, none⟩) (by simp)).trans (by simp)
              have qu7_3_8 : u8.cell? ⟨u7.heap.size, 3, none⟩ = some (.int .i64 zf) := (hb.cell (p := ⟨u7.heap.size, 3, none⟩) (by simp)).trans (by simp)
              have qu7_4_8 : u8.cell? ⟨u7.heap.size, 4, none⟩ = some (.bool zw) := (hb.cell (p := ⟨u7.heap.size, 4, none⟩) (by simp)).trans (by simp)
              have qu7_5_8 : u8.cell? ⟨u7.heap.size, 5, none⟩ = some (.bool zu) := (hb.cell (p := ⟨u7.heap.size, 5, none⟩) (by simp)).trans (by simp)
              have qu7_6_8 : u8.cell? ⟨u7.heap.size, 6, none⟩ = some (.bool zx) := (hb.cell (p := ⟨u7.heap.size, 6, none⟩) (by simp)).trans (by simp)
              have qu7_7_8 : u8.cell? ⟨u7.heap.size, 7, none⟩ = some (.bool false) := (hb.cell (p := ⟨u7.heap.size, 7, none⟩) (by simp)).trans (by simp)
              have qu7_8_8 : u8.cell? ⟨u7.heap.size, 8, none⟩ = some (.bool zd) := (hb.cell (p := ⟨u7.heap.size, 8, none⟩) (by simp)).trans (by simp)
              have lu7_8 : u7.heap.size < u8.heap.size := Nat.lt_of_lt_of_le (by simp) hb.size
              clear hb M7
              go_wp2_with fail
              refine (FF.out _ (M8.out.grow (Go.Joins.below_alloc1 _ _)).2.2.1).mono ?_
              rintro e u9 ⟨rfl, hb⟩
              have M9 : Hid (Own4 w u9 T (dropT T (fun l => l.fits a1 a2) 16) (dropT T (fun l => l.t == a1 && !l.g) 16) (dropT T (fun l => !true || !l.g) 16)) := (M8.out.grow (Go.Joins.below_alloc1 _ _)).grow hb
              have qu7_0_9 : u9.cell? ⟨u7.heap.size, 0, none⟩ = some (.bool true) := (hb.cell (p := ⟨u7.heap.size, 0, none⟩) (Nat.lt_of_lt_of_le lu7_8 (by rw [World.size_alloc]; omega))).trans ((World.cell?_alloc_lt _ _ _ (by exact lu7_8)).trans qu7_0_8)
              have qu7_1_9 : u9.cell? ⟨u7.heap.size, 1, none⟩ = some (.int .i64 a1) := (hb.cell (p := ⟨u7.heap.size, 1, none⟩) (Nat.lt_of_lt_of_le lu7_8 (by rw [World.size_alloc]; omega))).trans ((World.cell?_alloc_lt _ _ _ (by exact lu7_8)).trans qu7_1_8)
              have qu7_2_9 : u9.cell? ⟨u7.heap.size, 2, none⟩ = some (.int .i64 zp) := (hb.cell (p := ⟨u7.heap.size, 2, none⟩) (Nat.lt_of_lt_of_le lu7_8 (by rw [World.size_alloc]; omega))).trans ((World.cell?_alloc_lt _ _ _ (by exact lu7_8)).trans qu7_2_8)
              have qu7_3_9 : u9.cell? ⟨u7.heap.size, 3, none⟩ = some (.int .i64 zf) := (hb.cell (p := ⟨u7.heap.size, 3, none⟩) (Nat.lt_of_lt_of_le lu7_8 (by rw [World.size_alloc]; omega))).trans ((World.cell?_alloc_lt _ _ _ (by exact lu7_8)).trans qu7_3_8)
              have qu7_4_9 : u9.cell? ⟨u7.heap.size, 4, none⟩ = some (.bool zw) := (hb.cell (p := ⟨u7.heap.size, 4, none⟩) (Nat.lt_of_lt_of_le lu7_8 (by rw [World.size_alloc]; omega))).trans ((World.cell?_alloc_lt _ _ _ (by exact lu7_8)).trans qu7_4_8)
              have qu7_5_9 : u9.cell? ⟨u7.heap.size, 5, none⟩ = some (.bool zu) := (hb.cell (p := ⟨u7.heap.size, 5, none⟩) (Nat.lt_of_lt_of_le lu7_8 (by rw [World.size_alloc]; omega))).trans ((World.cell?_alloc_lt _ _ _ (by exact lu7_8)).trans qu7_5_8)
              have qu7_6_9 : u9.cell? ⟨u7.heap.size, 6, none⟩ = some (.bool zx) := (hb.cell (p := ⟨u7.heap.size, 6, none⟩) (Nat.lt_of_lt_of_le lu7_8 (by rw [World.size_alloc]; omega))).trans ((World.cell?_alloc_lt _ _ _ (by exact lu7_8)).trans qu7_6_8)
              have qu7_7_9 : u9.cell? ⟨u7.heap.size, 7, none⟩ = some (.bool false) := (hb.cell (p := ⟨u7.heap.size, 7, none⟩) (Nat.lt_of_lt_of_le lu7_8 (by rw [World.size_alloc]; omega))).trans ((World.cell?_alloc_lt _ _ _ (by exact lu7_8)).trans qu7_7_8)
              have qu7_8_9 : u9.cell? ⟨u7.heap.size, 8, none⟩ = some (.bool zd) := (hb.cell (p := ⟨u7.heap.size, 8, none⟩) (Nat.lt_of_lt_of_le lu7_8 (by rw [World.size_alloc]; omega))).trans ((World.cell?_alloc_lt _ _ _ (by exact lu7_8)).trans qu7_8_8)
              have lu7_9 : u7.heap.size < u9.heap.size := Nat.lt_of_lt_of_le (by rw [World.size_alloc]; omega) hb.size
              have qu8_0_9 : u9.cell? ⟨u8.heap.size, 0, none⟩ = some (.bool false) := (hb.cell (p := ⟨u8.heap.size, 0, none⟩) (by simp)).trans (by simp)
              have qu8_1_9 : u9.cell? ⟨u8.heap.size, 1, none⟩ = some (.int .i64 0) := (hb.cell (p := ⟨u8.heap.size, 1, none⟩) (by simp)).trans (by simp)
              have qu8_2_9 : u9.cell? ⟨u8.heap.size, 2, none⟩ = some (.int .i64 0) := (hb.cell (p := ⟨u8.heap.size, 2, none⟩) (by simp)).trans (by simp)
              have qu8_3_9 : u9.cell? ⟨u8.heap.size, 3, none⟩ = some (.int .i64 0) := (hb.cell (p := ⟨u8.heap.size, 3, none⟩) (by simp)).trans (by simp)
              have qu8_4_9 : u9.cell? ⟨u8.heap.size, 4, none⟩ = some (.bool false) := (hb.cell (p := ⟨u8.heap.size, 4, none⟩) (by simp)).trans (by simp)
              have qu8_5_9 : u9.cell? ⟨u8.heap.size, 5, none⟩ = some (.bool false) := (hb.cell (p := ⟨u8.heap.size, 5, none⟩) (by simp)).trans (by simp)
              have qu8_6_9 : u9.cell? ⟨u8.heap.size, 6, none⟩ = some (.bool false) := (hb.cell (p := ⟨u8.heap.size, 6, none⟩) (by simp)).trans (by simp)
              have qu8_7_9 : u9.cell? ⟨u8.heap.size, 7, none⟩ = some (.bool false) := (hb.cell (p := ⟨u8.heap.size, 7, none⟩) (by simp)).trans (by simp)
              have qu8_8_9 : u9.cell? ⟨u8.heap.size, 8, none⟩ = some (.bool false) := (hb.cell (p := ⟨u8.heap.size, 8, none⟩) (by simp)).trans (by simp)
              have lu8_9 : u8.heap.size < u9.heap.size := Nat.lt_of_lt_of_le (by simp) hb.size
              clear lu7_8 qu7_0_8 qu7_1_8 qu7_2_8 qu7_3_8 qu7_4_8 qu7_5_8 qu7_6_8 qu7_7_8 qu7_8_8
              clear hb M8
              have lw9 : w.heap.size < u7.heap.size := by have := B7.out; omega
              have lw8 : w.heap.size < u8.heap.size := B8.out
              go_wp2_with fail
              refine (AX.out _ (M9.out.grow (Go.Joins.below_alloc1 _ _)).1).mono ?_
              rintro e u10 ⟨rfl, h1, h2⟩
              have M10 : Hid (Own4 w u10 (dropT T (fun l => !false || !l.g) 16) (dropT T (fun l => l.fits a1 a2) 16) (dropT T (fun l => l.t == a1 && !l.g) 16) (dropT T (fun l => !true || !l.g) 16)) := (M9.out.grow (Go.Joins.below_alloc1 _ _)).n0 h1 h2
              have qu7_0_10 : u10.cell? ⟨u7.heap.size, 0, none⟩ = some (.bool true) := cell_grown h2 (by rw [World.size_alloc]; omega) (by omega) ((World.cell?_alloc_lt _ _ _ (by exact lu7_9)).trans qu7_0_9)
              have qu7_1_10 : u10.cell? ⟨u7.heap.size, 1, none⟩ = some (.int .i64 a1) := cell_grown h2 (by rw [World.size_alloc]; omega) (by omega) ((World.cell?_alloc_lt _ _ _ (by exact lu7_9)).trans qu7_1_9)
              have qu7_2_10 : u10.cell? ⟨u7.heap.size, 2, none⟩ = some (.int .i64 zp) := cell_grown h2 (by rw [World.size_alloc]; omega) (by omega) ((World.cell?_alloc_lt _ _ _ (by exact lu7_9)).trans qu7_2_9)
              have qu7_3_10 : u10.cell? ⟨u7.heap.size, 3, none⟩ = some (.int .i64 zf) := cell_grown h2 (by rw [World.size_alloc]; omega) (by omega) ((World.cell?_alloc_lt _ _ _ (by exact lu7_9)).trans qu7_3_9)
              have qu7_4_10 : u10.cell? ⟨u7.heap.size, 4, none⟩ = some (.bool zw) := cell_grown h2 (by rw [World.size_alloc]; omega) (by omega) ((World.cell?_alloc_lt _ _ _ (by exact lu7_9)).trans qu7_4_9)
              have qu7_5_10 : u10.cell? ⟨u7.heap.size, 5, none⟩ = some (.bool zu) := cell_grown h2 (by rw [World.size_alloc]; omega) (by omega) ((World.cell?_alloc_lt _ _ _ (by exact lu7_9)).trans qu7_5_9)
              have qu7_6_10 : u10.cell? ⟨u7.heap.size, 6, none⟩ = some (.bool zx) := cell_grown h2 (by rw [World.size_alloc]; omega) (by omega) ((World.cell?_alloc_lt _ _ _ (by exact lu7_9)).trans qu7_6_9)
              have qu7_7_10 : u10.cell? ⟨u7.heap.size, 7, none⟩ = some (.bool false) := cell_grown h2 (by rw [World.size_alloc]; omega) (by omega) ((World.cell?_alloc_lt _ _ _ (by exact lu7_9)).trans qu7_7_9)
              have qu7_8_10 : u10.cell? ⟨u7.heap.size, 8, none⟩ = some (.bool zd) := cell_grown h2 (by rw [World.size_alloc]; omega) (by omega) ((World.cell?_alloc_lt _ _ _ (by exact lu7_9)).trans qu7_8_9)
              have lu7_10 : u7.heap.size < u10.heap.size := Nat.lt_of_lt_of_le (by rw [World.size_alloc]; omega) h2.size
              have qu8_0_10 : u10.cell? ⟨u8.heap.size, 0, none⟩ = some (.bool false) := cell_grown h2 (by rw [World.size_alloc]; omega) (by omega) ((World.cell?_alloc_lt _ _ _ (by exact lu8_9)).trans qu8_0_9)
              have qu8_1_10 : u10.cell? ⟨u8.heap.size, 1, none⟩ = some (.int .i64 0) := cell_grown h2 (by rw [World.size_alloc]; omega) (by omega) ((World.cell?_alloc_lt _ _ _ (by exact lu8_9)).trans qu8_1_9)
              have qu8_2_10 : u10.cell? ⟨u8.heap.size, 2, none⟩ = some (.int .i64 0) := cell_grown h2 (by rw [World.size_alloc]; omega) (by omega) ((World.cell?_alloc_lt _ _ _ (by exact lu8_9)).trans qu8_2_9)
              have qu8_3_10 : u10.cell? ⟨u8.heap.size, 3, none⟩ = some (.int .i64 0) := cell_grown h2 (by rw [World.size_alloc]; omega) (by omega) ((World.cell?_alloc_lt _ _ _ (by exact lu8_9)).trans qu8_3_9)
              have qu8_4_10 : u10.cell? ⟨u8.heap.size, 4, none⟩ = some (.bool false) := cell_grown h2 (by rw [World.size_alloc]; omega) (by omega) ((World.cell?_alloc_lt _ _ _ (by exact lu8_9)).trans qu8_4_9)
              have qu8_5_10 : u10.cell? ⟨u8.heap.size, 5, none⟩ = some (.bool false) := cell_grown h2 (by rw [World.size_alloc]; omega) (by omega) ((World.cell?_alloc_lt _ _ _ (by exact lu8_9)).trans qu8_5_9)
              have qu8_6_10 : u10.cell? ⟨u8.heap.size, 6, none⟩ = some (.bool false) := cell_grown h2 (by rw [World.size_alloc]; omega) (by omega) ((World.cell?_alloc_lt _ _ _ (by exact lu8_9)).trans qu8_6_9)
              have qu8_7_10 : u10.cell? ⟨u8.heap.size, 7, none⟩ = some (.bool false) := cell_grown h2 (by rw [World.size_alloc]; omega) (by omega) ((World.cell?_alloc_lt _ _ _ (by exact lu8_9)).trans qu8_7_9)
              have qu8_8_10 : u10.cell? ⟨u8.heap.size, 8, none⟩ = some (.bool false) := cell_grown h2 (by rw [World.size_alloc]; omega) (by omega) ((World.cell?_alloc_lt _ _ _ (by exact lu8_9)).trans qu8_8_9)
              have lu8_10 : u8.heap.size < u10.heap.size := Nat.lt_of_lt_of_le (by rw [World.size_alloc]; omega) h2.size
              clear lu7_9 qu7_0_9 qu7_1_9 qu7_2_9 qu7_3_9 qu7_4_9 qu7_5_9 qu7_6_9 qu7_7_9 qu7_8_9
              clear lu8_9 qu8_0_9 qu8_1_9 qu8_2_9 qu8_3_9 qu8_4_9 qu8_5_9 qu8_6_9 qu8_7_9 qu8_8_9
              clear h1 h2 M9
              go_wp2_with fail
              refine (AW.out _).mono ?_
              rintro e u11 ⟨rfl, hb⟩
              have M11 : Hid (Own4 w u11 (dropT T (fun l => !false || !l.g) 16) (dropT T (fun l => l.fits a1 a2) 16) (dropT T (fun l => l.t == a1 && !l.g) 16) (dropT T (fun l => !true || !l.g) 16)) := M10.out.grow hb
              have qu7_0_11 : u11.cell? ⟨u7.heap.size, 0, none⟩ = some (.bool true) := (hb.cell (p := ⟨u7.heap.size, 0, none⟩) lu7_10).trans qu7_0_10
              have qu7_1_11 : u11.cell? ⟨u7.heap.size, 1, none⟩ = some (.int .i64 a1) := (hb.cell (p := ⟨u7.heap.size, 1, none⟩) lu7_10).trans qu7_1_10
              have qu7_2_11 : u11.cell? ⟨u7.heap.size, 2, none⟩ = some (.int .i64 zp) := (hb.cell (p := ⟨u7.heap.size, 2, none⟩) lu7_10).trans qu7_2_10
              have qu7_3_11 : u11.cell? ⟨u7.heap.size, 3, none⟩ = some (.int .i64 zf) := (hb.cell (p := ⟨u7.heap.size, 3, none⟩) lu7_10).trans qu7_3_10
              have qu7_4_11 : u11.cell? ⟨u7.heap.size, 4, none⟩ = some (.bool zw) := (hb.cell (p := ⟨u7.heap.size, 4, none⟩) lu7_10).trans qu7_4_10
              have qu7_5_11 : u11.cell? ⟨u7.heap.size, 5, none⟩ = some (.bool zu) := (hb.cell (p := ⟨u7.heap.size, 5, none⟩) lu7_10).trans qu7_5_10
              have qu7_6_11 : u11.cell? ⟨u7.heap.size, 6, none⟩ = some (.bool zx) := (hb.cell (p := ⟨u7.heap.size, 6, none⟩) lu7_10).trans qu7_6_10
              have qu7_7_11 : u11.cell? ⟨u7.heap.size, 7, none⟩ = some (.bool false) := (hb.cell (p := ⟨u7.heap.size, 7, none⟩) lu7_10).trans qu7_7_10
              have qu7_8_11 : u11.cell? ⟨u7.heap.size, 8, none⟩ = some (.bool zd) := (hb.cell (p := ⟨u7.heap.size, 8, none⟩) lu7_10).trans qu7_8_10
              have lu7_11 : u7.heap.size < u11.heap.size := Nat.lt_of_lt_of_le lu7_10 hb.size
              have qu8_0_11 : u11.cell? ⟨u8.heap.size, 0, none⟩ = some (.bool false) := (hb.cell (p := ⟨u8.heap.size, 0, none⟩) lu8_10).trans qu8_0_10
              have qu8_1_11 : u11.cell? ⟨u8.heap.size, 1, none⟩ = some (.int .i64 0) := (hb.cell (p := ⟨u8.heap.size, 1, none⟩) lu8_10).trans qu8_1_10
              have qu8_2_11 : u11.cell? ⟨u8.heap.size, 2, none⟩ = some (.int .i64 0) := (hb.cell (p := ⟨u8.heap.size, 2, none⟩) lu8_10).trans qu8_2_10
              have qu8_3_11 : u11.cell? ⟨u8.heap.size, 3, none⟩ = some (.int .i64 0) := (hb.cell (p := ⟨u8.heap.size, 3, none⟩) lu8_10).trans qu8_3_10
              have qu8_4_11 : u11.cell? ⟨u8.heap.size, 4, none⟩ = some (.bool false) := (hb.cell (p := ⟨u8.heap.size, 4, none⟩) lu8_10).trans qu8_4_10
              have qu8_5_11 : u11.cell? ⟨u8.heap.size, 5, none⟩ = some (.bool false) := (hb.cell (p := ⟨u8.heap.size, 5, none⟩) lu8_10).trans qu8_5_10
              have qu8_6_11 : u11.cell? ⟨u8.heap.size, 6, none⟩ = some (.bool false) := (hb.cell (p := ⟨u8.heap.size, 6, none⟩) lu8_10).trans qu8_6_10
              have qu8_7_11 : u11.cell? ⟨u8.heap.size, 7, none⟩ = some (.bool false) := (hb.cell (p := ⟨u8.heap.size, 7, none⟩) lu8_10).trans qu8_7_10
              have qu8_8_11 : u11.cell? ⟨u8.heap.size, 8, none⟩ = some (.bool false) := (hb.cell (p := ⟨u8.heap.size, 8, none⟩) lu8_10).trans qu8_8_10
              have lu8_11 : u8.heap.size < u11.heap.size := Nat.lt_of_lt_of_le lu8_10 hb.size
              clear lu7_10 qu7_0_10 qu7_1_10 qu7_2_10 qu7_3_10 qu7_4_10 qu7_5_10 qu7_6_10 qu7_7_10 qu7_8_10
              clear lu8_10 qu8_0_10 qu8_1_10 qu8_2_10 qu8_3_10 qu8_4_10 qu8_5_10 qu8_6_10 qu8_7_10 qu8_8_10
              clear hb M10
              go_wp2_with fail
              refine (LN.out _ M11.out.1).mono ?_
              rintro e u12 ⟨⟨pl, cl, rfl⟩, hb⟩
              have M12 : Hid (Own4 w u12 (dropT T (fun l => !false || !l.g) 16) (dropT T (fun l => l.fits a1 a2) 16) (dropT T (fun l => l.t == a1 && !l.g) 16) (dropT T (fun l => !true || !l.g) 16)) := M11.out.grow hb
              clear hb
              go_wp2_with fail
              go_ret
              exact ⟨rfl, M12.out.2.2.2.2⟩
          · have eb : (zp == a2) = false := by simp [hp]
            have rK : Ln.fits ⟨true, a1, zp, zf, zw, zu, zx, false, zd⟩ a1 a2 = false := by unfold Ln.fits; simp [hp]
            clear fz3 rZ hp
            have FA : Hid (∀ W : World, IsTlb W (w.heap.size + 1) (dropT T (fun l => l.fits a1 a2) 16) → Calls Try.prog 13 #[.pointer (some ⟨(w.heap.size + 1), 0, none⟩), .int .i64 a1, .int .i64 a2] W fun e w' => e = .returned (.tuple #[.agg #[.bool false, .int .i64 0, .int .i64 0, .int .i64 0, .bool false, .bool false, .bool false, .bool false, .bool false], .bool false]) ∧ Below W.heap.size W w') := fun W h => by
              have := find_any (w.heap.size + 1) (dropT T (fun l => l.fits a1 a2) 16) a1 a2 W h
              rw [find_drop hG.out, rA] at this; exact this
            have FB : Hid (∀ W : World, IsTlb W (w.heap.size + 1 + 1) (dropT T (fun l => l.t == a1 && !l.g) 16) → Calls Try.prog 13 #[.pointer (some ⟨(w.heap.size + 1 + 1), 0, none⟩), .int .i64 a1, .int .i64 zp] W fun e w' => e = .returned (.tuple #[.agg #[.bool false, .int .i64 0, .int .i64 0, .int .i64 0, .bool false, .bool false, .bool false, .bool false, .bool false], .bool false]) ∧ Below W.heap.size W w') := fun W h => by
              have := find_any (w.heap.size + 1 + 1) (dropT T (fun l => l.t == a1 && !l.g) 16) a1 zp W h
              rw [find_drop hG.out, hz3, if_neg (by simp)] at this; exact this
            have FC : Hid (∀ W : World, IsTlb W (w.heap.size + 1 + 1 + 1) (dropT T (fun l => !true || !l.g) 16) → Calls Try.prog 13 #[.pointer (some ⟨(w.heap.size + 1 + 1 + 1), 0, none⟩), .int .i64 a1, .int .i64 zp] W fun e w' => e = .returned (.tuple #[.agg #[.bool false, .int .i64 0, .int .i64 0, .int .i64 0, .bool false, .bool false, .bool false, .bool false, .bool false], .bool false]) ∧ Below W.heap.size W w') := fun W h => by
              have := find_any (w.heap.size + 1 + 1 + 1) (dropT T (fun l => !true || !l.g) 16) a1 zp W h
              rw [find_drop hG.out, hz3, if_neg (by simp)] at this; exact this
            have FZ : Hid (∀ W : World, IsTlb W w.heap.size (T) → Calls Try.prog 13 #[.pointer (some ⟨w.heap.size, 0, none⟩), .int .i64 a1, .int .i64 zp] W fun e w' => e = .returned (.tuple #[.agg #[.bool true, .int .i64 a1, .int .i64 zp, .int .i64 zf, .bool zw, .bool zu, .bool zx, .bool false, .bool zd], .bool true]) ∧ Below W.heap.size W w') := fun W h => by
              have := find_any w.heap.size (T) a1 zp W h
              rw [hz3] at this; exact this
            have FK : Hid (∀ W : World, IsTlb W (w.heap.size + 1) (dropT T (fun l => l.fits a1 a2) 16) → Calls Try.prog 13 #[.pointer (some ⟨(w.heap.size + 1), 0, none⟩), .int .i64 a1, .int .i64 zp] W fun e w' => e = .returned (.tuple #[.agg #[.bool true, .int .i64 a1, .int .i64 zp, .int .i64 zf, .bool zw, .bool zu, .bool zx, .bool false, .bool zd], .bool true]) ∧ Below W.heap.size W w') := fun W h => by
              have := find_any (w.heap.size + 1) (dropT T (fun l => l.fits a1 a2) 16) a1 zp W h
              rw [find_drop hG.out, hz3, if_pos (by simp [rK])] at this; exact this
            have FF : Hid (∀ W : World, IsTlb W (w.heap.size + 1 + 1) (dropT T (fun l => l.t == a1 && !l.g) 16) → Calls Try.prog 13 #[.pointer (some ⟨(w.heap.size + 1 + 1), 0, none⟩), .int .i64 a1, .int .i64 zp] W fun e w' => e = .returned (.tuple #[.agg #[.bool false, .int .i64 0, .int .i64 0, .int .i64 0, .bool false, .bool false, .bool false, .bool false, .bool false], .bool false]) ∧ Below W.heap.size W w') := fun W h => by
              have := find_any (w.heap.size + 1 + 1) (dropT T (fun l => l.t == a1 && !l.g) 16) a1 zp W h
              rw [find_drop hG.out, hz3, if_neg (by simp)] at this; exact this
            clear hG
            by_cases hq : k < n0
            · have hd : decide ((k : Int) < (n0 : Int)) = true := by simp; omega
              have hd2 : decide ((k : Int) < 60) = false := by simp; omega
              go_wp2_with fail
              refine (PG.out _ hM.out.2.1).mono ?_
              rintro e u1 ⟨rfl, h1, h2⟩
              have M1 : Hid (Own4 w u1 T (dropT T (fun l => l.fits a1 a2) 16) T T) := hM.out.n1 h1 h2
              clear h1 h2
              go_wp2_with fail
              refine (TA.out _ M1.out.2.2.1).mono ?_
              rintro e u2 ⟨rfl, h1, h2⟩
              have M2 : Hid (Own4 w u2 T (dropT T (fun l => l.fits a1 a2) 16) (dropT T (fun l => l.t == a1 && !l.g) 16) T) := M1.out.n2 h1 h2
              clear h1 h2 M1
              go_wp2_with fail
              refine (AL.out _ M2.out.2.2.2.1).mono ?_
              rintro e u3 ⟨rfl, h1, h2⟩
              have M3 : Hid (Own4 w u3 T (dropT T (fun l => l.fits a1 a2) 16) (dropT T (fun l => l.t == a1 && !l.g) 16) (dropT T (fun l => !true || !l.g) 16)) := M2.out.n3 h1 h2
              clear h1 h2 M2
              go_wp2_with fail
              refine (FA.out _ M3.out.2.1).mono ?_
              rintro e u4 ⟨rfl, hb⟩
              have M4 : Hid (Own4 w u4 T (dropT T (fun l => l.fits a1 a2) 16) (dropT T (fun l => l.t == a1 && !l.g) 16) (dropT T (fun l => !true || !l.g) 16)) := M3.out.grow hb
              clear hb M3
              go_wp2_with fail
              refine (FB.out _ (M4.out.grow (Go.Joins.below_alloc1 _ _)).2.2.1).mono ?_
              rintro e u5 ⟨rfl, hb⟩
              have M5 : Hid (Own4 w u5 T (dropT T (fun l => l.fits a1 a2) 16) (dropT T (fun l => l.t == a1 && !l.g) 16) (dropT T (fun l => !true || !l.g) 16)) := (M4.out.grow (Go.Joins.below_alloc1 _ _)).grow hb
              have lu4_5 : u4.heap.size < u5.heap.size := Nat.lt_of_lt_of_le (by simp) hb.size
              clear hb M4
              go_wp2_with fail
              refine (FC.out _ (M5.out.grow (Go.Joins.below_alloc1 _ _)).2.2.2.1).mono ?_
              rintro e u6 ⟨rfl, hb⟩
              have M6 : Hid (Own4 w u6 T (dropT T (fun l => l.fits a1 a2) 16) (dropT T (fun l => l.t == a1 && !l.g) 16) (dropT T (fun l => !true || !l.g) 16)) := (M5.out.grow (Go.Joins.below_alloc1 _ _)).grow hb
              have lu4_6 : u4.heap.size < u6.heap.size := Nat.lt_of_lt_of_le (by rw [World.size_alloc]; omega) hb.size
              have qu5_7_6 : u6.cell? ⟨u5.heap.size, 7, none⟩ = some (.bool false) := (hb.cell (p := ⟨u5.heap.size, 7, none⟩) (by simp)).trans (by simp)
              have lu5_6 : u5.heap.size < u6.heap.size := Nat.lt_of_lt_of_le (by simp) hb.size
              clear lu4_5 
              clear hb M5
              go_wp2_with fail
              refine (FZ.out _ (M6.out.grow (Go.Joins.below_alloc1 _ _)).1).mono ?_
              rintro e u7 ⟨rfl, hb⟩
              have B7 : Hid (w.heap.size < u7.heap.size) := Nat.lt_of_lt_of_le (Nat.lt_of_lt_of_le M6.out.1.2.2 (by simp)) hb.size
              have M7 : Hid (Own4 w u7 T (dropT T (fun l => l.fits a1 a2) 16) (dropT T (fun l => l.t == a1 && !l.g) 16) (dropT T (fun l => !true || !l.g) 16)) := (M6.out.grow (Go.Joins.below_alloc1 _ _)).grow hb
              have lu4_7 : u4.heap.size < u7.heap.size := Nat.lt_of_lt_of_le (by rw [World.size_alloc]; omega) hb.size
              have qu5_7_7 : u7.cell? ⟨u5.heap.size, 7, none⟩ = some (.bool false) := (hb.cell (p := ⟨u5.heap.size, 7, none⟩) (Nat.lt_of_lt_of_le lu5_6 (by rw [World.size_alloc]; omega))).trans ((World.cell?_alloc_lt _ _ _ (by exact lu5_6)).trans qu5_7_6)
              have lu5_7 : u5.heap.size < u7.heap.size := Nat.lt_of_lt_of_le (by rw [World.size_alloc]; omega) hb.size
              have qu6_7_7 : u7.cell? ⟨u6.heap.size, 7, none⟩ = some (.bool false) := (hb.cell (p := ⟨u6.heap.size, 7, none⟩) (by simp)).trans (by simp)
              have lu6_7 : u6.heap.size < u7.heap.size := Nat.lt_of_lt_of_le (by simp) hb.size
              clear lu4_6 
              clear lu5_6 qu5_7_6
              clear hb M6
              go_wp2_with fail
              refine (FK.out _ (M7.out.grow (Go.Joins.below_alloc1 _ _)).2.1).mono ?_
              rintro e u8 ⟨rfl, hb⟩
              have M8 : Hid (Own4 w u8 T (dropT T (fun l => l.fits a1 a2) 16) (dropT T (fun l => l.t == a1 && !l.g) 16) (dropT T (fun l => !true || !l.g) 16)) := (M7.out.grow (Go.Joins.below_alloc1 _ _)).grow hb
              have B8 : Hid (w.heap.size < u8.heap.size) := M8.out.1.2.2
              have qu7_0_8 : u8.cell? ⟨u7.heap.size, 0, none⟩ = some (.bool true) := (hb.cell (p := ⟨u7.heap.size, 0, none⟩) (by simp)).trans (by simp)
              have qu7_1_8 : u8.cell? ⟨u7.heap.size, 1, none⟩ = some (.int .i64 a1) := (hb.cell (p := ⟨u7.heap.size, 1, none⟩) (by simp)).trans (by simp)
              have qu7_2_8 : u8.cell? ⟨u7.heap.size, 2, none⟩ = some (.int .i64 zp) := (hb.cell (p := ⟨u7.heap.size, 2, none⟩) (by simp)).trans (by simp)
              have qu7_3_8 : u8.cell? ⟨u7.heap.size, 3, none⟩ = some (.int .i64 zf) := (hb.cell (p := ⟨u7.heap.size, 3, none⟩) (by simp)).trans (by simp)
              have qu7_4_8 : u8.cell? ⟨u7.heap.size, 4, none⟩ = some (.bool zw) := (hb.cell (p := ⟨u7.heap.size, 4, none⟩) (by simp)).trans (by simp)
              have qu7_5_8 : u8.cell? ⟨u7.heap.size, 5, none⟩ = some (.bool zu) := (hb.cell (p := ⟨u7.heap.size, 5, none⟩) (by simp)).trans (by simp)
              have qu7_6_8 : u8.cell? ⟨u7.heap.size, 6, none⟩ = some (.bool zx) := (hb.cell (p := ⟨u7.heap.size, 6, none⟩) (by simp)).trans (by simp)
              have qu7_7_8 : u8.cell? ⟨u7.heap.size, 7, none⟩ = some (.bool false) := (hb.cell (p := ⟨u7.heap.size, 7, none⟩) (by simp)).trans (by simp)
              have qu7_8_8 : u8.cell? ⟨u7.heap.size, 8, none⟩ = some (.bool zd) := (hb.cell (p := ⟨u7.heap.size, 8, none⟩) (by simp)).trans (by simp)
              have lu7_8 : u7.heap.size < u8.heap.size := Nat.lt_of_lt_of_le (by simp) hb.size
              clear hb M7
              go_wp2_with fail
              refine (FF.out _ (M8.out.grow (Go.Joins.below_alloc1 _ _)).2.2.1).mono ?_
              rintro e u9 ⟨rfl, hb⟩
              have M9 : Hid (Own4 w u9 T (dropT T (fun l => l.fits a1 a2) 16) (dropT T (fun l => l.t == a1 && !l.g) 16) (dropT T (fun l => !true || !l.g) 16)) := (M8.out.grow (Go.Joins.below_alloc1 _ _)).grow hb
              have qu7_0_9 : u9.cell? ⟨u7.heap.size, 0, none⟩ = some (.bool true) := (hb.cell (p := ⟨u7.heap.size, 0, none⟩) (Nat.lt_of_lt_of_le lu7_8 (by rw [World.size_alloc]; omega))).trans ((World.cell?_alloc_lt _ _ _ (by exact lu7_8)).trans qu7_0_8)
              have qu7_1_9 : u9.cell? ⟨u7.heap.size, 1, none⟩ = some (.int .i64 a1) := (hb.cell (p := ⟨u7.heap.size, 1, none⟩) (Nat.lt_of_lt_of_le lu7_8 (by rw [World.size_alloc]; omega))).trans ((World.cell?_alloc_lt _ _ _ (by exact lu7_8)).trans qu7_1_8)
              have qu7_2_9 : u9.cell? ⟨u7.heap.size, 2, none⟩ = some (.int .i64 zp) := (hb.cell (p := ⟨u7.heap.size, 2, none⟩) (Nat.lt_of_lt_of_le lu7_8 (by rw [World.size_alloc]; omega))).trans ((World.cell?_alloc_lt _ _ _ (by exact lu7_8)).trans qu7_2_8)
              have qu7_3_9 : u9.cell? ⟨u7.heap.size, 3, none⟩ = some (.int .i64 zf) := (hb.cell (p := ⟨u7.heap.size, 3, none⟩) (Nat.lt_of_lt_of_le lu7_8 (by rw [World.size_alloc]; omega))).trans ((World.cell?_alloc_lt _ _ _ (by exact lu7_8)).trans qu7_3_8)
              have qu7_4_9 : u9.cell? ⟨u7.heap.size, 4, none⟩ = some (.bool zw) := (hb.cell (p := ⟨u7.heap.size, 4, none⟩) (Nat.lt_of_lt_of_le lu7_8 (by rw [World.size_alloc]; omega))).trans ((World.cell?_alloc_lt _ _ _ (by exact lu7_8)).trans qu7_4_8)
              have qu7_5_9 : u9.cell? ⟨u7.heap.size, 5, none⟩ = some (.bool zu) := (hb.cell (p := ⟨u7.heap.size, 5, none⟩) (Nat.lt_of_lt_of_le lu7_8 (by rw [World.size_alloc]; omega))).trans ((World.cell?_alloc_lt _ _ _ (by exact lu7_8)).trans qu7_5_8)
              have qu7_6_9 : u9.cell? ⟨u7.heap.size, 6, none⟩ = some (.bool zx) := (hb.cell (p := ⟨u7.heap.size, 6, none⟩) (Nat.lt_of_lt_of_le lu7_8 (by rw [World.size_alloc]; omega))).trans ((World.cell?_alloc_lt _ _ _ (by exact lu7_8)).trans qu7_6_8)
              have qu7_7_9 : u9.cell? ⟨u7.heap.size, 7, none⟩ = some (.bool false) := (hb.cell (p := ⟨u7.heap.size, 7, none⟩) (Nat.lt_of_lt_of_le lu7_8 (by rw [World.size_alloc]; omega))).trans ((World.cell?_alloc_lt _ _ _ (by exact lu7_8)).trans qu7_7_8)
              have qu7_8_9 : u9.cell? ⟨u7.heap.size, 8, none⟩ = some (.bool zd) := (hb.cell (p := ⟨u7.heap.size, 8, none⟩) (Nat.lt_of_lt_of_le lu7_8 (by rw [World.size_alloc]; omega))).trans ((World.cell?_alloc_lt _ _ _ (by exact lu7_8)).trans qu7_8_8)
              have lu7_9 : u7.heap.size < u9.heap.size := Nat.lt_of_lt_of_le (by rw [World.size_alloc]; omega) hb.size
              have qu8_0_9 : u9.cell? ⟨u8.heap.size, 0, none⟩ = some (.bool true) := (hb.cell (p := ⟨u8.heap.size, 0, none⟩) (by simp)).trans (by simp)
              have qu8_1_9 : u9.cell? ⟨u8.heap.size, 1, none⟩ = some (.int .i64 a1) := (hb.cell (p := ⟨u8.heap.size, 1, none⟩) (by simp)).trans (by simp)
              have qu8_2_9 : u9.cell? ⟨u8.heap.size, 2, none⟩ = some (.int .i64 zp) := (hb.cell (p := ⟨u8.heap.size, 2, none⟩) (by simp)).trans (by simp)
              have qu8_3_9 : u9.cell? ⟨u8.heap.size, 3, none⟩ = some (.int .i64 zf) := (hb.cell (p := ⟨u8.heap.size, 3, none⟩) (by simp)).trans (by simp)
              have qu8_4_9 : u9.cell? ⟨u8.heap.size, 4, none⟩ = some (.bool zw) := (hb.cell (p := ⟨u8.heap.size, 4, none⟩) (by simp)).trans (by simp)
              have qu8_5_9 : u9.cell? ⟨u8.heap.size, 5, none⟩ = some (.bool zu) := (hb.cell (p := ⟨u8.heap.size, 5, none⟩) (by simp)).trans (by simp)
              have qu8_6_9 : u9.cell? ⟨u8.heap.size, 6, none⟩ = some (.bool zx) := (hb.cell (p := ⟨u8.heap.size, 6, none⟩) (by simp)).trans (by simp)
              have qu8_7_9 : u9.cell? ⟨u8.heap.size, 7, none⟩ = some (.bool false) := (hb.cell (p := ⟨u8.heap.size, 7, none⟩) (by simp)).trans (by simp)
              have qu8_8_9 : u9.cell? ⟨u8.heap.size, 8, none⟩ = some (.bool zd) := (hb.cell (p := ⟨u8.heap.size, 8, none⟩) (by simp)).trans (by simp)
              have lu8_9 : u8.heap.size < u9.heap.size := Nat.lt_of_lt_of_le (by simp) hb.size
              clear lu7_8 qu7_0_8 qu7_1_8 qu7_2_8 qu7_3_8 qu7_4_8 qu7_5_8 qu7_6_8 qu7_7_8 qu7_8_8
              clear hb M8
              have lw9 : w.heap.size < u7.heap.size := by have := B7.out; omega
              have lw8 : w.heap.size < u8.heap.size := B8.out
              go_wp2_with fail
              refine (AX.out _ (M9.out.grow (Go.Joins.below_alloc1 _ _)).1).mono ?_
              rintro e u10 ⟨rfl, h1, h2⟩
              have M10 : Hid (Own4 w u10 (dropT T (fun l => !false || !l.g) 16) (dropT T (fun l => l.fits a1 a2) 16) (dropT T (fun l => l.t == a1 && !l.g) 16) (dropT T (fun l => !true || !l.g) 16)) := (M9.out.grow (Go.Joins.below_alloc1 _ _)).n0 h1 h2
              have qu7_0_10 : u10.cell? ⟨u7.heap.size, 0, none⟩ = some (.bool true) := cell_grown h2 (by rw [World.size_alloc]; omega) (by omega) ((World.cell?_alloc_lt _ _ _ (by exact lu7_9)).trans qu7_0_9)
              have qu7_1_10 : u10.cell? ⟨u7.heap.size, 1, none⟩ = some (.int .i64 a1) := cell_grown h2 (by rw [World.size_alloc]; omega) (by omega) ((World.cell?_alloc_lt _ _ _ (by exact lu7_9)).trans qu7_1_9)
              have qu7_2_10 : u10.cell? ⟨u7.heap.size, 2, none⟩ = some (.int .i64 zp) := cell_grown h2 (by rw [World.size_alloc]; omega) (by omega) ((World.cell?_alloc_lt _ _ _ (by exact lu7_9)).trans qu7_2_9)
              have qu7_3_10 : u10.cell? ⟨u7.heap.size, 3, none⟩ = some (.int .i64 zf) := cell_grown h2 (by rw [World.size_alloc]; omega) (by omega) ((World.cell?_alloc_lt _ _ _ (by exact lu7_9)).trans qu7_3_9)
              have qu7_4_10 : u10.cell? ⟨u7.heap.size, 4, none⟩ = some (.bool zw) := cell_grown h2 (by rw [World.size_alloc]; omega) (by omega) ((World.cell?_alloc_lt _ _ _ (by exact lu7_9)).trans qu7_4_9)
              have qu7_5_10 : u10.cell? ⟨u7.heap.size, 5, none⟩ = some (.bool zu) := cell_grown h2 (by rw [World.size_alloc]; omega) (by omega) ((World.cell?_alloc_lt _ _ _ (by exact lu7_9)).trans qu7_5_9)
              have qu7_6_10 : u10.cell? ⟨u7.heap.size, 6, none⟩ = some (.bool zx) := cell_grown h2 (by rw [World.size_alloc]; omega) (by omega) ((World.cell?_alloc_lt _ _ _ (by exact lu7_9)).trans qu7_6_9)
              have qu7_7_10 : u10.cell? ⟨u7.heap.size, 7, none⟩ = some (.bool false) := cell_grown h2 (by rw [World.size_alloc]; omega) (by omega) ((World.cell?_alloc_lt _ _ _ (by exact lu7_9)).trans qu7_7_9)
              have qu7_8_10 : u10.cell? ⟨u7.heap.size, 8, none⟩ = some (.bool zd) := cell_grown h2 (by rw [World.size_alloc]; omega) (by omega) ((World.cell?_alloc_lt _ _ _ (by exact lu7_9)).trans qu7_8_9)
              have lu7_10 : u7.heap.size < u10.heap.size := Nat.lt_of_lt_of_le (by rw [World.size_alloc]; omega) h2.size
              have qu8_0_10 : u10.cell? ⟨u8.heap.size, 0, none⟩ = some (.bool true) := cell_grown h2 (by rw [World.size_alloc]; omega) (by omega) ((World.cell?_alloc_lt _ _ _ (by exact lu8_9)).trans qu8_0_9)
              have qu8_1_10 : u10.cell? ⟨u8.heap.size, 1, none⟩ = some (.int .i64 a1) := cell_grown h2 (by rw [World.size_alloc]; omega) (by omega) ((World.cell?_alloc_lt _ _ _ (by exact lu8_9)).trans qu8_1_9)
              have qu8_2_10 : u10.cell? ⟨u8.heap.size, 2, none⟩ = some (.int .i64 zp) := cell_grown h2 (by rw [World.size_alloc]; omega) (by omega) ((World.cell?_alloc_lt _ _ _ (by exact lu8_9)).trans qu8_2_9)
              have qu8_3_10 : u10.cell? ⟨u8.heap.size, 3, none⟩ = some (.int .i64 zf) := cell_grown h2 (by rw [World.size_alloc]; omega) (by omega) ((World.cell?_alloc_lt _ _ _ (by exact lu8_9)).trans qu8_3_9)
              have qu8_4_10 : u10.cell? ⟨u8.heap.size, 4, none⟩ = some (.bool zw) := cell_grown h2 (by rw [World.size_alloc]; omega) (by omega) ((World.cell?_alloc_lt _ _ _ (by exact lu8_9)).trans qu8_4_9)
              have qu8_5_10 : u10.cell? ⟨u8.heap.size, 5, none⟩ = some (.bool zu) := cell_grown h2 (by rw [World.size_alloc]; omega) (by omega) ((World.cell?_alloc_lt _ _ _ (by exact lu8_9)).trans qu8_5_9)
              have qu8_6_10 : u10.cell? ⟨u8.heap.size, 6, none⟩ = some (.bool zx) := cell_grown h2 (by rw [World.size_alloc]; omega) (by omega) ((World.cell?_alloc_lt _ _ _ (by exact lu8_9)).trans qu8_6_9)
              have qu8_7_10 : u10.cell? ⟨u8.heap.size, 7, none⟩ = some (.bool false) := cell_grown h2 (by rw [World.size_alloc]; omega) (by omega) ((World.cell?_alloc_lt _ _ _ (by exact lu8_9)).trans qu8_7_9)
              have qu8_8_10 : u10.cell? ⟨u8.heap.size, 8, none⟩ = some (.bool zd) := cell_grown h2 (by rw [World.size_alloc]; omega) (by omega) ((World.cell?_alloc_lt _ _ _ (by exact lu8_9)).trans qu8_8_9)
              have lu8_10 : u8.heap.size < u10.heap.size := Nat.lt_of_lt_of_le (by rw [World.size_alloc]; omega) h2.size
              clear lu7_9 qu7_0_9 qu7_1_9 qu7_2_9 qu7_3_9 qu7_4_9 qu7_5_9 qu7_6_9 qu7_7_9 qu7_8_9
              clear lu8_9 qu8_0_9 qu8_1_9 qu8_2_9 qu8_3_9 qu8_4_9 qu8_5_9 qu8_6_9 qu8_7_9 qu8_8_9
              clear h1 h2 M9
              go_wp2_with fail
              refine (AW.out _).mono ?_
              rintro e u11 ⟨rfl, hb⟩
              have M11 : Hid (Own4 w u11 (dropT T (fun l => !false || !l.g) 16) (dropT T (fun l => l.fits a1 a2) 16) (dropT T (fun l => l.t == a1 && !l.g) 16) (dropT T (fun l => !true || !l.g) 16)) := M10.out.grow hb
              have qu7_0_11 : u11.cell? ⟨u7.heap.size, 0, none⟩ = some (.bool true) := (hb.cell (p := ⟨u7.heap.size, 0, none⟩) lu7_10).trans qu7_0_10
              have qu7_1_11 : u11.cell? ⟨u7.heap.size, 1, none⟩ = some (.int .i64 a1) := (hb.cell (p := ⟨u7.heap.size, 1, none⟩) lu7_10).trans qu7_1_10
              have qu7_2_11 : u11.cell? ⟨u7.heap.size, 2, none⟩ = some (.int .i64 zp) := (hb.cell (p := ⟨u7.heap.size, 2, none⟩) lu7_10).trans qu7_2_10
              have qu7_3_11 : u11.cell? ⟨u7.heap.size, 3, none⟩ = some (.int .i64 zf) := (hb.cell (p := ⟨u7.heap.size, 3, none⟩) lu7_10).trans qu7_3_10
              have qu7_4_11 : u11.cell? ⟨u7.heap.size, 4, none⟩ = some (.bool zw) := (hb.cell (p := ⟨u7.heap.size, 4, none⟩) lu7_10).trans qu7_4_10
              have qu7_5_11 : u11.cell? ⟨u7.heap.size, 5, none⟩ = some (.bool zu) := (hb.cell (p := ⟨u7.heap.size, 5, none⟩) lu7_10).trans qu7_5_10
              have qu7_6_11 : u11.cell? ⟨u7.heap.size, 6, none⟩ = some (.bool zx) := (hb.cell (p := ⟨u7.heap.size, 6, none⟩) lu7_10).trans qu7_6_10
              have qu7_7_11 : u11.cell? ⟨u7.heap.size, 7, none⟩ = some (.bool false) := (hb.cell (p := ⟨u7.heap.size, 7, none⟩) lu7_10).trans qu7_7_10
              have qu7_8_11 : u11.cell? ⟨u7.heap.size, 8, none⟩ = some (.bool zd) := (hb.cell (p := ⟨u7.heap.size, 8, none⟩) lu7_10).trans qu7_8_10
              have lu7_11 : u7.heap.size < u11.heap.size := Nat.lt_of_lt_of_le lu7_10 hb.size
              have qu8_0_11 : u11.cell? ⟨u8.heap.size, 0, none⟩ = some (.bool true) := (hb.cell (p := ⟨u8.heap.size, 0, none⟩) lu8_10).trans qu8_0_10
              have qu8_1_11 : u11.cell? ⟨u8.heap.size, 1, none⟩ = some (.int .i64 a1) := (hb.cell (p := ⟨u8.heap.size, 1, none⟩) lu8_10).trans qu8_1_10
              have qu8_2_11 : u11.cell? ⟨u8.heap.size, 2, none⟩ = some (.int .i64 zp) := (hb.cell (p := ⟨u8.heap.size, 2, none⟩) lu8_10).trans qu8_2_10
              have qu8_3_11 : u11.cell? ⟨u8.heap.size, 3, none⟩ = some (.int .i64 zf) := (hb.cell (p := ⟨u8.heap.size, 3, none⟩) lu8_10).trans qu8_3_10
              have qu8_4_11 : u11.cell? ⟨u8.heap.size, 4, none⟩ = some (.bool zw) := (hb.cell (p := ⟨u8.heap.size, 4, none⟩) lu8_10).trans qu8_4_10
              have qu8_5_11 : u11.cell? ⟨u8.heap.size, 5, none⟩ = some (.bool zu) := (hb.cell (p := ⟨u8.heap.size, 5, none⟩) lu8_10).trans qu8_5_10
              have qu8_6_11 : u11.cell? ⟨u8.heap.size, 6, none⟩ = some (.bool zx) := (hb.cell (p := ⟨u8.heap.size, 6, none⟩) lu8_10).trans qu8_6_10
              have qu8_7_11 : u11.cell? ⟨u8.heap.size, 7, none⟩ = some (.bool false) := (hb.cell (p := ⟨u8.heap.size, 7, none⟩) lu8_10).trans qu8_7_10
              have qu8_8_11 : u11.cell? ⟨u8.heap.size, 8, none⟩ = some (.bool zd) := (hb.cell (p := ⟨u8.heap.size, 8, none⟩) lu8_10).trans qu8_8_10
              have lu8_11 : u8.heap.size < u11.heap.size := Nat.lt_of_lt_of_le lu8_10 hb.size
              clear lu7_10 qu7_0_10 qu7_1_10 qu7_2_10 qu7_3_10 qu7_4_10 qu7_5_10 qu7_6_10 qu7_7_10 qu7_8_10
              clear lu8_10 qu8_0_10 qu8_1_10 qu8_2_10 qu8_3_10 qu8_4_10 qu8_5_10 qu8_6_10 qu8_7_10 qu8_8_10
              clear hb M10
              go_wp2_with fail
              refine (LN.out _ M11.out.1).mono ?_
              rintro e u12 ⟨⟨pl, cl, rfl⟩, hb⟩
              have M12 : Hid (Own4 w u12 (dropT T (fun l => !false || !l.g) 16) (dropT T (fun l => l.fits a1 a2) 16) (dropT T (fun l => l.t == a1 && !l.g) 16) (dropT T (fun l => !true || !l.g) 16)) := M11.out.grow hb
              clear hb
              go_wp2_with fail
              go_ret
              exact ⟨rfl, M12.out.2.2.2.2⟩
            · have hd : decide ((k : Int) < (n0 : Int)) = false := by simp; omega
              go_wp2_with fail
              refine (PG.out _ hM.out.2.1).mono ?_
              rintro e u1 ⟨rfl, h1, h2⟩
              have M1 : Hid (Own4 w u1 T (dropT T (fun l => l.fits a1 a2) 16) T T) := hM.out.n1 h1 h2
              clear h1 h2
              go_wp2_with fail
              refine (TA.out _ M1.out.2.2.1).mono ?_
              rintro e u2 ⟨rfl, h1, h2⟩
              have M2 : Hid (Own4 w u2 T (dropT T (fun l => l.fits a1 a2) 16) (dropT T (fun l => l.t == a1 && !l.g) 16) T) := M1.out.n2 h1 h2
              clear h1 h2 M1
              go_wp2_with fail
              refine (AL.out _ M2.out.2.2.2.1).mono ?_
              rintro e u3 ⟨rfl, h1, h2⟩
              have M3 : Hid (Own4 w u3 T (dropT T (fun l => l.fits a1 a2) 16) (dropT T (fun l => l.t == a1 && !l.g) 16) (dropT T (fun l => !true || !l.g) 16)) := M2.out.n3 h1 h2
              clear h1 h2 M2
              go_wp2_with fail
              refine (FA.out _ M3.out.2.1).mono ?_
              rintro e u4 ⟨rfl, hb⟩
              have M4 : Hid (Own4 w u4 T (dropT T (fun l => l.fits a1 a2) 16) (dropT T (fun l => l.t == a1 && !l.g) 16) (dropT T (fun l => !true || !l.g) 16)) := M3.out.grow hb
              clear hb M3
              go_wp2_with fail
              refine (FB.out _ (M4.out.grow (Go.Joins.below_alloc1 _ _)).2.2.1).mono ?_
              rintro e u5 ⟨rfl, hb⟩
              have M5 : Hid (Own4 w u5 T (dropT T (fun l => l.fits a1 a2) 16) (dropT T (fun l => l.t == a1 && !l.g) 16) (dropT T (fun l => !true || !l.g) 16)) := (M4.out.grow (Go.Joins.below_alloc1 _ _)).grow hb
              have lu4_5 : u4.heap.size < u5.heap.size := Nat.lt_of_lt_of_le (by simp) hb.size
              clear hb M4
              go_wp2_with fail
              refine (FC.out _ (M5.out.grow (Go.Joins.below_alloc1 _ _)).2.2.2.1).mono ?_
              rintro e u6 ⟨rfl, hb⟩
              have M6 : Hid (Own4 w u6 T (dropT T (fun l => l.fits a1 a2) 16) (dropT T (fun l => l.t == a1 && !l.g) 16) (dropT T (fun l => !true || !l.g) 16)) := (M5.out.grow (Go.Joins.below_alloc1 _ _)).grow hb
              have lu4_6 : u4.heap.size < u6.heap.size := Nat.lt_of_lt_of_le (by rw [World.size_alloc]; omega) hb.size
              have qu5_7_6 : u6.cell? ⟨u5.heap.size, 7, none⟩ = some (.bool false) := (hb.cell (p := ⟨u5.heap.size, 7, none⟩) (by simp)).trans (by simp)
              have lu5_6 : u5.heap.size < u6.heap.size := Nat.lt_of_lt_of_le (by simp) hb.size
              clear lu4_5 
              clear hb M5
              go_wp2_with fail
              refine (FZ.out _ (M6.out.grow (Go.Joins.below_alloc1 _ _)).1).mono ?_
              rintro e u7 ⟨rfl, hb⟩
              have B7 : Hid (w.heap.size < u7.heap.size) := Nat.lt_of_lt_of_le (Nat.lt_of_lt_of_le M6.out.1.2.2 (by simp)) hb.size
              have M7 : Hid (Own4 w u7 T (dropT T (fun l => l.fits a1 a2) 16) (dropT T (fun l => l.t == a1 && !l.g) 16) (dropT T (fun l => !true || !l.g) 16)) := (M6.out.grow (Go.Joins.below_alloc1 _ _)).grow hb
              have lu4_7 : u4.heap.size < u7.heap.size := Nat.lt_of_lt_of_le (by rw [World.size_alloc]; omega) hb.size
              have qu5_7_7 : u7.cell? ⟨u5.heap.size, 7, none⟩ = some (.bool false) := (hb.cell (p := ⟨u5.heap.size, 7, none⟩) (Nat.lt_of_lt_of_le lu5_6 (by rw [World.size_alloc]; omega))).trans ((World.cell?_alloc_lt _ _ _ (by exact lu5_6)).trans qu5_7_6)
              have lu5_7 : u5.heap.size < u7.heap.size := Nat.lt_of_lt_of_le (by rw [World.size_alloc]; omega) hb.size
              have qu6_7_7 : u7.cell? ⟨u6.heap.size, 7, none⟩ = some (.bool false) := (hb.cell (p := ⟨u6.heap.size, 7, none⟩) (by simp)).trans (by simp)
              have lu6_7 : u6.heap.size < u7.heap.size := Nat.lt_of_lt_of_le (by simp) hb.size
              clear lu4_6 
              clear lu5_6 qu5_7_6
              clear hb M6
              go_wp2_with fail
              refine (FK.out _ (M7.out.grow (Go.Joins.below_alloc1 _ _)).2.1).mono ?_
              rintro e u8 ⟨rfl, hb⟩
              have M8 : Hid (Own4 w u8 T (dropT T (fun l => l.fits a1 a2) 16) (dropT T (fun l => l.t == a1 && !l.g) 16) (dropT T (fun l => !true || !l.g) 16)) := (M7.out.grow (Go.Joins.below_alloc1 _ _)).grow hb
              have B8 : Hid (w.heap.size < u8.heap.size) := M8.out.1.2.2
              have qu7_0_8 : u8.cell? ⟨u7.heap.size, 0, none⟩ = some (.bool true) := (hb.cell (p := ⟨u7.heap.size, 0, none⟩) (by simp)).trans (by simp)
              have qu7_1_8 : u8.cell? ⟨u7.heap.size, 1, none⟩ = some (.int .i64 a1) := (hb.cell (p := ⟨u7.heap.size, 1, none⟩) (by simp)).trans (by simp)
              have qu7_2_8 : u8.cell? ⟨u7.heap.size, 2, none⟩ = some (.int .i64 zp) := (hb.cell (p := ⟨u7.heap.size, 2, none⟩) (by simp)).trans (by simp)
              have qu7_3_8 : u8.cell? ⟨u7.heap.size, 3, none⟩ = some (.int .i64 zf) := (hb.cell (p := ⟨u7.heap.size, 3, none⟩) (by simp)).trans (by simp)
              have qu7_4_8 : u8.cell? ⟨u7.heap.size, 4, none⟩ = some (.bool zw) := (hb.cell (p := ⟨u7.heap.size, 4, none⟩) (by simp)).trans (by simp)
              have qu7_5_8 : u8.cell? ⟨u7.heap.size, 5, none⟩ = some (.bool zu) := (hb.cell (p := ⟨u7.heap.size, 5, none⟩) (by simp)).trans (by simp)
              have qu7_6_8 : u8.cell? ⟨u7.heap.size, 6, none⟩ = some (.bool zx) := (hb.cell (p := ⟨u7.heap.size, 6, none⟩) (by simp)).trans (by simp)
              have qu7_7_8 : u8.cell? ⟨u7.heap.size, 7, none⟩ = some (.bool false) := (hb.cell (p := ⟨u7.heap.size, 7, none⟩) (by simp)).trans (by simp)
              have qu7_8_8 : u8.cell? ⟨u7.heap.size, 8, none⟩ = some (.bool zd) := (hb.cell (p := ⟨u7.heap.size, 8, none⟩) (by simp)).trans (by simp)
              have lu7_8 : u7.heap.size < u8.heap.size := Nat.lt_of_lt_of_le (by simp) hb.size
              clear hb M7
              go_wp2_with fail
              refine (FF.out _ (M8.out.grow (Go.Joins.below_alloc1 _ _)).2.2.1).mono ?_
              rintro e u9 ⟨rfl, hb⟩
              have M9 : Hid (Own4 w u9 T (dropT T (fun l => l.fits a1 a2) 16) (dropT T (fun l => l.t == a1 && !l.g) 16) (dropT T (fun l => !true || !l.g) 16)) := (M8.out.grow (Go.Joins.below_alloc1 _ _)).grow hb
              have qu7_0_9 : u9.cell? ⟨u7.heap.size, 0, none⟩ = some (.bool true) := (hb.cell (p := ⟨u7.heap.size, 0, none⟩) (Nat.lt_of_lt_of_le lu7_8 (by rw [World.size_alloc]; omega))).trans ((World.cell?_alloc_lt _ _ _ (by exact lu7_8)).trans qu7_0_8)
              have qu7_1_9 : u9.cell? ⟨u7.heap.size, 1, none⟩ = some (.int .i64 a1) := (hb.cell (p := ⟨u7.heap.size, 1, none⟩) (Nat.lt_of_lt_of_le lu7_8 (by rw [World.size_alloc]; omega))).trans ((World.cell?_alloc_lt _ _ _ (by exact lu7_8)).trans qu7_1_8)
              have qu7_2_9 : u9.cell? ⟨u7.heap.size, 2, none⟩ = some (.int .i64 zp) := (hb.cell (p := ⟨u7.heap.size, 2, none⟩) (Nat.lt_of_lt_of_le lu7_8 (by rw [World.size_alloc]; omega))).trans ((World.cell?_alloc_lt _ _ _ (by exact lu7_8)).trans qu7_2_8)
              have qu7_3_9 : u9.cell? ⟨u7.heap.size, 3, none⟩ = some (.int .i64 zf) := (hb.cell (p := ⟨u7.heap.size, 3, none⟩) (Nat.lt_of_lt_of_le lu7_8 (by rw [World.size_alloc]; omega))).trans ((World.cell?_alloc_lt _ _ _ (by exact lu7_8)).trans qu7_3_8)
              have qu7_4_9 : u9.cell? ⟨u7.heap.size, 4, none⟩ = some (.bool zw) := (hb.cell (p := ⟨u7.heap.size, 4, none⟩) (Nat.lt_of_lt_of_le lu7_8 (by rw [World.size_alloc]; omega))).trans ((World.cell?_alloc_lt _ _ _ (by exact lu7_8)).trans qu7_4_8)
              have qu7_5_9 : u9.cell? ⟨u7.heap.size, 5, none⟩ = some (.bool zu) := (hb.cell (p := ⟨u7.heap.size, 5, none⟩) (Nat.lt_of_lt_of_le lu7_8 (by rw [World.size_alloc]; omega))).trans ((World.cell?_alloc_lt _ _ _ (by exact lu7_8)).trans qu7_5_8)
              have qu7_6_9 : u9.cell? ⟨u7.heap.size, 6, none⟩ = some (.bool zx) := (hb.cell (p := ⟨u7.heap.size, 6, none⟩) (Nat.lt_of_lt_of_le lu7_8 (by rw [World.size_alloc]; omega))).trans ((World.cell?_alloc_lt _ _ _ (by exact lu7_8)).trans qu7_6_8)
              have qu7_7_9 : u9.cell? ⟨u7.heap.size, 7, none⟩ = some (.bool false) := (hb.cell (p := ⟨u7.heap.size, 7, none⟩) (Nat.lt_of_lt_of_le lu7_8 (by rw [World.size_alloc]; omega))).trans ((World.cell?_alloc_lt _ _ _ (by exact lu7_8)).trans qu7_7_8)
              have qu7_8_9 : u9.cell? ⟨u7.heap.size, 8, none⟩ = some (.bool zd) := (hb.cell (p := ⟨u7.heap.size, 8, none⟩) (Nat.lt_of_lt_of_le lu7_8 (by rw [World.size_alloc]; omega))).trans ((World.cell?_alloc_lt _ _ _ (by exact lu7_8)).trans qu7_8_8)
              have lu7_9 : u7.heap.size < u9.heap.size := Nat.lt_of_lt_of_le (by rw [World.size_alloc]; omega) hb.size
              have qu8_0_9 : u9.cell? ⟨u8.heap.size, 0, none⟩ = some (.bool true) := (hb.cell (p := ⟨u8.heap.size, 0, none⟩) (by simp)).trans (by simp)
              have qu8_1_9 : u9.cell? ⟨u8.heap.size, 1, none⟩ = some (.int .i64 a1) := (hb.cell (p := ⟨u8.heap.size, 1, none⟩) (by simp)).trans (by simp)
              have qu8_2_9 : u9.cell? ⟨u8.heap.size, 2, none⟩ = some (.int .i64 zp) := (hb.cell (p := ⟨u8.heap.size, 2, none⟩) (by simp)).trans (by simp)
              have qu8_3_9 : u9.cell? ⟨u8.heap.size, 3, none⟩ = some (.int .i64 zf) := (hb.cell (p := ⟨u8.heap.size, 3, none⟩) (by simp)).trans (by simp)
              have qu8_4_9 : u9.cell? ⟨u8.heap.size, 4, none⟩ = some (.bool zw) := (hb.cell (p := ⟨u8.heap.size, 4, none⟩) (by simp)).trans (by simp)
              have qu8_5_9 : u9.cell? ⟨u8.heap.size, 5, none⟩ = some (.bool zu) := (hb.cell (p := ⟨u8.heap.size, 5, none⟩) (by simp)).trans (by simp)
              have qu8_6_9 : u9.cell? ⟨u8.heap.size, 6, none⟩ = some (.bool zx) := (hb.cell (p := ⟨u8.heap.size, 6, none⟩) (by simp)).trans (by simp)
              have qu8_7_9 : u9.cell? ⟨u8.heap.size, 7, none⟩ = some (.bool false) := (hb.cell (p := ⟨u8.heap.size, 7, none⟩) (by simp)).trans (by simp)
              have qu8_8_9 : u9.cell? ⟨u8.heap.size, 8, none⟩ = some (.bool zd) := (hb.cell (p := ⟨u8.heap.size, 8, none⟩) (by simp)).trans (by simp)
              have lu8_9 : u8.heap.size < u9.heap.size := Nat.lt_of_lt_of_le (by simp) hb.size
              clear lu7_8 qu7_0_8 qu7_1_8 qu7_2_8 qu7_3_8 qu7_4_8 qu7_5_8 qu7_6_8 qu7_7_8 qu7_8_8
              clear hb M8
              have lw9 : w.heap.size < u7.heap.size := by have := B7.out; omega
              have lw8 : w.heap.size < u8.heap.size := B8.out
              go_wp2_with fail
              refine (AX.out _ (M9.out.grow (Go.Joins.below_alloc1 _ _)).1).mono ?_
              rintro e u10 ⟨rfl, h1, h2⟩
              have M10 : Hid (Own4 w u10 (dropT T (fun l => !false || !l.g) 16) (dropT T (fun l => l.fits a1 a2) 16) (dropT T (fun l => l.t == a1 && !l.g) 16) (dropT T (fun l => !true || !l.g) 16)) := (M9.out.grow (Go.Joins.below_alloc1 _ _)).n0 h1 h2
              have qu7_0_10 : u10.cell? ⟨u7.heap.size, 0, none⟩ = some (.bool true) := cell_grown h2 (by rw [World.size_alloc]; omega) (by omega) ((World.cell?_alloc_lt _ _ _ (by exact lu7_9)).trans qu7_0_9)
              have qu7_1_10 : u10.cell? ⟨u7.heap.size, 1, none⟩ = some (.int .i64 a1) := cell_grown h2 (by rw [World.size_alloc]; omega) (by omega) ((World.cell?_alloc_lt _ _ _ (by exact lu7_9)).trans qu7_1_9)
              have qu7_2_10 : u10.cell? ⟨u7.heap.size, 2, none⟩ = some (.int .i64 zp) := cell_grown h2 (by rw [World.size_alloc]; omega) (by omega) ((World.cell?_alloc_lt _ _ _ (by exact lu7_9)).trans qu7_2_9)
              have qu7_3_10 : u10.cell? ⟨u7.heap.size, 3, none⟩ = some (.int .i64 zf) := cell_grown h2 (by rw [World.size_alloc]; omega) (by omega) ((World.cell?_alloc_lt _ _ _ (by exact lu7_9)).trans qu7_3_9)
              have qu7_4_10 : u10.cell? ⟨u7.heap.size, 4, none⟩ = some (.bool zw) := cell_grown h2 (by rw [World.size_alloc]; omega) (by omega) ((World.cell?_alloc_lt _ _ _ (by exact lu7_9)).trans qu7_4_9)
              have qu7_5_10 : u10.cell? ⟨u7.heap.size, 5, none⟩ = some (.bool zu) := cell_grown h2 (by rw [World.size_alloc]; omega) (by omega) ((World.cell?_alloc_lt _ _ _ (by exact lu7_9)).trans qu7_5_9)
              have qu7_6_10 : u10.cell? ⟨u7.heap.size, 6, none⟩ = some (.bool zx) := cell_grown h2 (by rw [World.size_alloc]; omega) (by omega) ((World.cell?_alloc_lt _ _ _ (by exact lu7_9)).trans qu7_6_9)
              have qu7_7_10 : u10.cell? ⟨u7.heap.size, 7, none⟩ = some (.bool false) := cell_grown h2 (by rw [World.size_alloc]; omega) (by omega) ((World.cell?_alloc_lt _ _ _ (by exact lu7_9)).trans qu7_7_9)
              have qu7_8_10 : u10.cell? ⟨u7.heap.size, 8, none⟩ = some (.bool zd) := cell_grown h2 (by rw [World.size_alloc]; omega) (by omega) ((World.cell?_alloc_lt _ _ _ (by exact lu7_9)).trans qu7_8_9)
              have lu7_10 : u7.heap.size < u10.heap.size := Nat.lt_of_lt_of_le (by rw [World.size_alloc]; omega) h2.size
              have qu8_0_10 : u10.cell? ⟨u8.heap.size, 0, none⟩ = some (.bool true) := cell_grown h2 (by rw [World.size_alloc]; omega) (by omega) ((World.cell?_alloc_lt _ _ _ (by exact lu8_9)).trans qu8_0_9)
              have qu8_1_10 : u10.cell? ⟨u8.heap.size, 1, none⟩ = some (.int .i64 a1) := cell_grown h2 (by rw [World.size_alloc]; omega) (by omega) ((World.cell?_alloc_lt _ _ _ (by exact lu8_9)).trans qu8_1_9)
              have qu8_2_10 : u10.cell? ⟨u8.heap.size, 2, none⟩ = some (.int .i64 zp) := cell_grown h2 (by rw [World.size_alloc]; omega) (by omega) ((World.cell?_alloc_lt _ _ _ (by exact lu8_9)).trans qu8_2_9)
              have qu8_3_10 : u10.cell? ⟨u8.heap.size, 3, none⟩ = some (.int .i64 zf) := cell_grown h2 (by rw [World.size_alloc]; omega) (by omega) ((World.cell?_alloc_lt _ _ _ (by exact lu8_9)).trans qu8_3_9)
              have qu8_4_10 : u10.cell? ⟨u8.heap.size, 4, none⟩ = some (.bool zw) := cell_grown h2 (by rw [World.size_alloc]; omega) (by omega) ((World.cell?_alloc_lt _ _ _ (by exact lu8_9)).trans qu8_4_9)
              have qu8_5_10 : u10.cell? ⟨u8.heap.size, 5, none⟩ = some (.bool zu) := cell_grown h2 (by rw [World.size_alloc]; omega) (by omega) ((World.cell?_alloc_lt _ _ _ (by exact lu8_9)).trans qu8_5_9)
              have qu8_6_10 : u10.cell? ⟨u8.heap.size, 6, none⟩ = some (.bool zx) := cell_grown h2 (by rw [World.size_alloc]; omega) (by omega) ((World.cell?_alloc_lt _ _ _ (by exact lu8_9)).trans qu8_6_9)
              have qu8_7_10 : u10.cell? ⟨u8.heap.size, 7, none⟩ = some (.bool false) := cell_grown h2 (by rw [World.size_alloc]; omega) (by omega) ((World.cell?_alloc_lt _ _ _ (by exact lu8_9)).trans qu8_7_9)
              have qu8_8_10 : u10.cell? ⟨u8.heap.size, 8, none⟩ = some (.bool zd) := cell_grown h2 (by rw [World.size_alloc]; omega) (by omega) ((World.cell?_alloc_lt _ _ _ (by exact lu8_9)).trans qu8_8_9)
              have lu8_10 : u8.heap.size < u10.heap.size := Nat.lt_of_lt_of_le (by rw [World.size_alloc]; omega) h2.size
              clear lu7_9 qu7_0_9 qu7_1_9 qu7_2_9 qu7_3_9 qu7_4_9 qu7_5_9 qu7_6_9 qu7_7_9 qu7_8_9
              clear lu8_9 qu8_0_9 qu8_1_9 qu8_2_9 qu8_3_9 qu8_4_9 qu8_5_9 qu8_6_9 qu8_7_9 qu8_8_9
              clear h1 h2 M9
              go_wp2_with fail
              refine (AW.out _).mono ?_
              rintro e u11 ⟨rfl, hb⟩
              have M11 : Hid (Own4 w u11 (dropT T (fun l => !false || !l.g) 16) (dropT T (fun l => l.fits a1 a2) 16) (dropT T (fun l => l.t == a1 && !l.g) 16) (dropT T (fun l => !true || !l.g) 16)) := M10.out.grow hb
              have qu7_0_11 : u11.cell? ⟨u7.heap.size, 0, none⟩ = some (.bool true) := (hb.cell (p := ⟨u7.heap.size, 0, none⟩) lu7_10).trans qu7_0_10
              have qu7_1_11 : u11.cell? ⟨u7.heap.size, 1, none⟩ = some (.int .i64 a1) := (hb.cell (p := ⟨u7.heap.size, 1, none⟩) lu7_10).trans qu7_1_10
              have qu7_2_11 : u11.cell? ⟨u7.heap.size, 2, none⟩ = some (.int .i64 zp) := (hb.cell (p := ⟨u7.heap.size, 2, none⟩) lu7_10).trans qu7_2_10
              have qu7_3_11 : u11.cell? ⟨u7.heap.size, 3, none⟩ = some (.int .i64 zf) := (hb.cell (p := ⟨u7.heap.size, 3, none⟩) lu7_10).trans qu7_3_10
              have qu7_4_11 : u11.cell? ⟨u7.heap.size, 4, none⟩ = some (.bool zw) := (hb.cell (p := ⟨u7.heap.size, 4, none⟩) lu7_10).trans qu7_4_10
              have qu7_5_11 : u11.cell? ⟨u7.heap.size, 5, none⟩ = some (.bool zu) := (hb.cell (p := ⟨u7.heap.size, 5, none⟩) lu7_10).trans qu7_5_10
              have qu7_6_11 : u11.cell? ⟨u7.heap.size, 6, none⟩ = some (.bool zx) := (hb.cell (p := ⟨u7.heap.size, 6, none⟩) lu7_10).trans qu7_6_10
              have qu7_7_11 : u11.cell? ⟨u7.heap.size, 7, none⟩ = some (.bool false) := (hb.cell (p := ⟨u7.heap.size, 7, none⟩) lu7_10).trans qu7_7_10
              have qu7_8_11 : u11.cell? ⟨u7.heap.size, 8, none⟩ = some (.bool zd) := (hb.cell (p := ⟨u7.heap.size, 8, none⟩) lu7_10).trans qu7_8_10
              have lu7_11 : u7.heap.size < u11.heap.size := Nat.lt_of_lt_of_le lu7_10 hb.size
              have qu8_0_11 : u11.cell? ⟨u8.heap.size, 0, none⟩ = some (.bool true) := (hb.cell (p := ⟨u8.heap.size, 0, none⟩) lu8_10).trans qu8_0_10
              have qu8_1_11 : u11.cell? ⟨u8.heap.size, 1, none⟩ = some (.int .i64 a1) := (hb.cell (p := ⟨u8.heap.size, 1, none⟩) lu8_10).trans qu8_1_10
              have qu8_2_11 : u11.cell? ⟨u8.heap.size, 2, none⟩ = some (.int .i64 zp) := (hb.cell (p := ⟨u8.heap.size, 2, none⟩) lu8_10).trans qu8_2_10
              have qu8_3_11 : u11.cell? ⟨u8.heap.size, 3, none⟩ = some (.int .i64 zf) := (hb.cell (p := ⟨u8.heap.size, 3, none⟩) lu8_10).trans qu8_3_10
              have qu8_4_11 : u11.cell? ⟨u8.heap.size, 4, none⟩ = some (.bool zw) := (hb.cell (p := ⟨u8.heap.size, 4, none⟩) lu8_10).trans qu8_4_10
              have qu8_5_11 : u11.cell? ⟨u8.heap.size, 5, none⟩ = some (.bool zu) := (hb.cell (p := ⟨u8.heap.size, 5, none⟩) lu8_10).trans qu8_5_10
              have qu8_6_11 : u11.cell? ⟨u8.heap.size, 6, none⟩ = some (.bool zx) := (hb.cell (p := ⟨u8.heap.size, 6, none⟩) lu8_10).trans qu8_6_10
              have qu8_7_11 : u11.cell? ⟨u8.heap.size, 7, none⟩ = some (.bool false) := (hb.cell (p := ⟨u8.heap.size, 7, none⟩) lu8_10).trans qu8_7_10
              have qu8_8_11 : u11.cell? ⟨u8.heap.size, 8, none⟩ = some (.bool zd) := (hb.cell (p := ⟨u8.heap.size, 8, none⟩) lu8_10).trans qu8_8_10
              have lu8_11 : u8.heap.size < u11.heap.size := Nat.lt_of_lt_of_le lu8_10 hb.size
              clear lu7_10 qu7_0_10 qu7_1_10 qu7_2_10 qu7_3_10 qu7_4_10 qu7_5_10 qu7_6_10 qu7_7_10 qu7_8_10
              clear lu8_10 qu8_0_10 qu8_1_10 qu8_2_10 qu8_3_10 qu8_4_10 qu8_5_10 qu8_6_10 qu8_7_10 qu8_8_10
              clear hb M10
              go_wp2_with fail
              refine (LN.out _ M11.out.1).mono ?_
              rintro e u12 ⟨⟨pl, cl, rfl⟩, hb⟩
              have M12 : Hid (Own4 w u12 (dropT T (fun l => !false || !l.g) 16) (dropT T (fun l => l.fits a1 a2) 16) (dropT T (fun l => l.t == a1 && !l.g) 16) (dropT T (fun l => !true || !l.g) 16)) := M11.out.grow hb
              clear hb
              go_wp2_with fail
              go_ret
              exact ⟨rfl, M12.out.2.2.2.2⟩
        · skip
          by_cases hp : zp = a2
          · have eb : (zp == a2) = true := by simp [hp]
            have rK : Ln.fits ⟨true, zt, zp, zf, zw, zu, zx, true, zd⟩ a1 a2 = true := by rw [← hp]; exact rZ rfl
            clear fz3 rZ hp
            have FA : Hid (∀ W : World, IsTlb W (w.heap.size + 1) (dropT T (fun l => l.fits a1 a2) 16) → Calls Try.prog 13 #[.pointer (some ⟨(w.heap.size + 1), 0, none⟩), .int .i64 a1, .int .i64 a2] W fun e w' => e = .returned (.tuple #[.agg #[.bool false, .int .i64 0, .int .i64 0, .int .i64 0, .bool false, .bool false, .bool false, .bool false, .bool false], .bool false]) ∧ Below W.heap.size W w') := fun W h => by
              have := find_any (w.heap.size + 1) (dropT T (fun l => l.fits a1 a2) 16) a1 a2 W h
              rw [find_drop hG.out, rA] at this; exact this
            have FB : Hid (∀ W : World, IsTlb W (w.heap.size + 1 + 1) (dropT T (fun l => l.t == a1 && !l.g) 16) → Calls Try.prog 13 #[.pointer (some ⟨(w.heap.size + 1 + 1), 0, none⟩), .int .i64 a1, .int .i64 zp] W fun e w' => e = .returned (.tuple #[.agg #[.bool true, .int .i64 zt, .int .i64 zp, .int .i64 zf, .bool zw, .bool zu, .bool zx, .bool true, .bool zd], .bool true]) ∧ Below W.heap.size W w') := fun W h => by
              have := find_any (w.heap.size + 1 + 1) (dropT T (fun l => l.t == a1 && !l.g) 16) a1 zp W h
              rw [find_drop hG.out, hz3, if_pos (by simp)] at this; exact this
            have FC : Hid (∀ W : World, IsTlb W (w.heap.size + 1 + 1 + 1) (dropT T (fun l => !true || !l.g) 16) → Calls Try.prog 13 #[.pointer (some ⟨(w.heap.size + 1 + 1 + 1), 0, none⟩), .int .i64 a1, .int .i64 zp] W fun e w' => e = .returned (.tuple #[.agg #[.bool true, .int .i64 zt, .int .i64 zp, .int .i64 zf, .bool zw, .bool zu, .bool zx, .bool true, .bool zd], .bool true]) ∧ Below W.heap.size W w') := fun W h => by
              have := find_any (w.heap.size + 1 + 1 + 1) (dropT T (fun l => !true || !l.g) 16) a1 zp W h
              rw [find_drop hG.out, hz3, if_pos (by simp)] at this; exact this
            have FZ : Hid (∀ W : World, IsTlb W w.heap.size (T) → Calls Try.prog 13 #[.pointer (some ⟨w.heap.size, 0, none⟩), .int .i64 a1, .int .i64 zp] W fun e w' => e = .returned (.tuple #[.agg #[.bool true, .int .i64 zt, .int .i64 zp, .int .i64 zf, .bool zw, .bool zu, .bool zx, .bool true, .bool zd], .bool true]) ∧ Below W.heap.size W w') := fun W h => by
              have := find_any w.heap.size (T) a1 zp W h
              rw [hz3] at this; exact this
            have FK : Hid (∀ W : World, IsTlb W (w.heap.size + 1) (dropT T (fun l => l.fits a1 a2) 16) → Calls Try.prog 13 #[.pointer (some ⟨(w.heap.size + 1), 0, none⟩), .int .i64 a1, .int .i64 zp] W fun e w' => e = .returned (.tuple #[.agg #[.bool false, .int .i64 0, .int .i64 0, .int .i64 0, .bool false, .bool false, .bool false, .bool false, .bool false], .bool false]) ∧ Below W.heap.size W w') := fun W h => by
              have := find_any (w.heap.size + 1) (dropT T (fun l => l.fits a1 a2) 16) a1 zp W h
              rw [find_drop hG.out, hz3, if_neg (by simp [rK])] at this; exact this
            have FF : Hid (∀ W : World, IsTlb W (w.heap.size + 1 + 1) (dropT T (fun l => l.t == a1 && !l.g) 16) → Calls Try.prog 13 #[.pointer (some ⟨(w.heap.size + 1 + 1), 0, none⟩), .int .i64 a1, .int .i64 zp] W fun e w' => e = .returned (.tuple #[.agg #[.bool true, .int .i64 zt, .int .i64 zp, .int .i64 zf, .bool zw, .bool zu, .bool zx, .bool true, .bool zd], .bool true]) ∧ Below W.heap.size W w') := fun W h => by
              have := find_any (w.heap.size + 1 + 1) (dropT T (fun l => l.t == a1 && !l.g) 16) a1 zp W h
              rw [find_drop hG.out, hz3, if_pos (by simp)] at this; exact this
            clear hG
            by_cases hq : k < n0
            · have hd : decide ((k : Int) < (n0 : Int)) = true := by simp; omega
              have hd2 : decide ((k : Int) < 60) = false := by simp; omega
              go_wp2_with fail
              refine (PG.out _ hM.out.2.1).mono ?_
              rintro e u1 ⟨rfl, h1, h2⟩
              have M1 : Hid (Own4 w u1 T (dropT T (fun l => l.fits a1 a2) 16) T T) := hM.out.n1 h1 h2
              clear h1 h2
              go_wp2_with fail
              refine (TA.out _ M1.out.2.2.1).mono ?_
              rintro e u2 ⟨rfl, h1, h2⟩
              have M2 : Hid (Own4 w u2 T (dropT T (fun l => l.fits a1 a2) 16) (dropT T (fun l => l.t == a1 && !l.g) 16) T) := M1.out.n2 h1 h2
              clear h1 h2 M1
              go_wp2_with fail
              refine (AL.out _ M2.out.2.2.2.1).mono ?_
              rintro e u3 ⟨rfl, h1, h2⟩
              have M3 : Hid (Own4 w u3 T (dropT T (fun l => l.fits a1 a2) 16) (dropT T (fun l => l.t == a1 && !l.g) 16) (dropT T (fun l => !true || !l.g) 16)) := M2.out.n3 h1 h2
              clear h1 h2 M2
              go_wp2_with fail
              refine (FA.out _ M3.out.2.1).mono ?_
              rintro e u4 ⟨rfl, hb⟩
              have M4 : Hid (Own4 w u4 T (dropT T (fun l => l.fits a1 a2) 16) (dropT T (fun l => l.t == a1 && !l.g) 16) (dropT T (fun l => !true || !l.g) 16)) := M3.out.grow hb
              clear hb M3
              go_wp2_with fail
              refine (FB.out _ (M4.out.grow (Go.Joins.below_alloc1 _ _)).2.2.1).mono ?_
              rintro e u5 ⟨rfl, hb⟩
              have M5 : Hid (Own4 w u5 T (dropT T (fun l => l.fits a1 a2) 16) (dropT T (fun l => l.t == a1 && !l.g) 16) (dropT T (fun l => !true || !l.g) 16)) := (M4.out.grow (Go.Joins.below_alloc1 _ _)).grow hb
              have lu4_5 : u4.heap.size < u5.heap.size := Nat.lt_of_lt_of_le (by simp) hb.size
              clear hb M4
              go_wp2_with fail
              refine (FC.out _ (M5.out.grow (Go.Joins.below_alloc1 _ _)).2.2.2.1).mono ?_
              rintro e u6 ⟨rfl, hb⟩
              have M6 : Hid (Own4 w u6 T (dropT T (fun l => l.fits a1 a2) 16) (dropT T (fun l => l.t == a1 && !l.g) 16) (dropT T (fun l => !true || !l.g) 16)) := (M5.out.grow (Go.Joins.below_alloc1 _ _)).grow hb
              have lu4_6 : u4.heap.size < u6.heap.size := Nat.lt_of_lt_of_le (by rw [World.size_alloc]; omega) hb.size
              have qu5_7_6 : u6.cell? ⟨u5.heap.size, 7, none⟩ = some (.bool true) := (hb.cell (p := ⟨u5.heap.size, 7, none⟩) (by simp)).trans (by simp)
              have lu5_6 : u5.heap.size < u6.heap.size := Nat.lt_of_lt_of_le (by simp) hb.size
              clear lu4_5 
              clear hb M5
              go_wp2_with fail
              refine (FZ.out _ (M6.out.grow (Go.Joins.below_alloc1 _ _)).1).mono ?_
              rintro e u7 ⟨rfl, hb⟩
              have B7 : Hid (w.heap.size < u7.heap.size) := Nat.lt_of_lt_of_le (Nat.lt_of_lt_of_le M6.out.1.2.2 (by simp)) hb.size
              have M7 : Hid (Own4 w u7 T (dropT T (fun l => l.fits a1 a2) 16) (dropT T (fun l => l.t == a1 && !l.g) 16) (dropT T (fun l => !true || !l.g) 16)) := (M6.out.grow (Go.Joins.below_alloc1 _ _)).grow hb
              have lu4_7 : u4.heap.size < u7.heap.size := Nat.lt_of_lt_of_le (by rw [World.size_alloc]; omega) hb.size
              have qu5_7_7 : u7.cell? ⟨u5.heap.size, 7, none⟩ = some (.bool true) := (hb.cell (p := ⟨u5.heap.size, 7, none⟩) (Nat.lt_of_lt_of_le lu5_6 (by rw [World.size_alloc]; omega))).trans ((World.cell?_alloc_lt _ _ _ (by exact lu5_6)).trans qu5_7_6)
              have lu5_7 : u5.heap.size < u7.heap.size := Nat.lt_of_lt_of_le (by rw [World.size_alloc]; omega) hb.size
              have qu6_7_7 : u7.cell? ⟨u6.heap.size, 7, none⟩ = some (.bool true) := (hb.cell (p := ⟨u6.heap.size, 7, none⟩) (by simp)).trans (by simp)
              have lu6_7 : u6.heap.size < u7.heap.size := Nat.lt_of_lt_of_le (by simp) hb.size
              clear lu4_6 
              clear lu5_6 qu5_7_6
              clear hb M6
              go_wp2_with fail
              refine (FK.out _ (M7.out.grow (Go.Joins.below_alloc1 _ _)).2.1).mono ?_
              rintro e u8 ⟨rfl, hb⟩
              have M8 : Hid (Own4 w u8 T (dropT T (fun l => l.fits a1 a2) 16) (dropT T (fun l => l.t == a1 && !l.g) 16) (dropT T (fun l => !true || !l.g) 16)) := (M7.out.grow (Go.Joins.below_alloc1 _ _)).grow hb
              have B8 : Hid (w.heap.size < u8.heap.size) := M8.out.1.2.2
              have qu7_0_8 : u8.cell? ⟨u7.heap.size, 0, none⟩ = some (.bool true) := (hb.cell (p := ⟨u7.heap.size, 0, none⟩) (by simp)).trans (by simp)
              have qu7_1_8 : u8.cell? ⟨u7.heap.size, 1, none⟩ = some (.int .i64 zt) := (hb.cell (p := ⟨u7.heap.size, 1, none⟩) (by simp)).trans (by simp)
              have qu7_2_8 : u8.cell? ⟨u7.heap.size, 2, none⟩ = some (.int .i64 zp) := (hb.cell (p := ⟨u7.heap.size, 2, none⟩) (by simp)).trans (by simp)
              have qu7_3_8 : u8.cell? ⟨u7.heap.size, 3, none⟩ = some (.int .i64 zf) := (hb.cell (p := ⟨u7.heap.size, 3, none⟩) (by simp)).trans (by simp)
              have qu7_4_8 : u8.cell? ⟨u7.heap.size, 4, none⟩ = some (.bool zw) := (hb.cell (p := ⟨u7.heap.size, 4, none⟩) (by simp)).trans (by simp)
              have qu7_5_8 : u8.cell? ⟨u7.heap.size, 5, none⟩ = some (.bool zu) := (hb.cell (p := ⟨u7.heap.size, 5, none⟩) (by simp)).trans (by simp)
              have qu7_6_8 : u8.cell? ⟨u7.heap.size, 6, none⟩ = some (.bool zx) := (hb.cell (p := ⟨u7.heap.size, 6, none⟩) (by simp)).trans (by simp)
              have qu7_7_8 : u8.cell? ⟨u7.heap.size, 7, none⟩ = some (.bool true) := (hb.cell (p := ⟨u7.heap.size, 7, none⟩) (by simp)).trans (by simp)
              have qu7_8_8 : u8.cell? ⟨u7.heap.size, 8, none⟩ = some (.bool zd) := (hb.cell (p := ⟨u7.heap.size, 8, none⟩) (by simp)).trans (by simp)
              have lu7_8 : u7.heap.size < u8.heap.size := Nat.lt_of_lt_of_le (by simp) hb.size
              clear hb M7
              go_wp2_with fail
              refine (FF.out _ (M8.out.grow (Go.Joins.below_alloc1 _ _)).2.2.1).mono ?_
              rintro e u9 ⟨rfl, hb⟩
              have M9 : Hid (Own4 w u9 T (dropT T (fun l => l.fits a1 a2) 16) (dropT T (fun l => l.t == a1 && !l.g) 16) (dropT T (fun l => !true || !l.g) 16)) := (M8.out.grow (Go.Joins.below_alloc1 _ _)).grow hb
              have qu7_0_9 : u9.cell? ⟨u7.heap.size, 0, none⟩ = some (.bool true) := (hb.cell (p := ⟨u7.heap.size, 0, none⟩) (Nat.lt_of_lt_of_le lu7_8 (by rw [World.size_alloc]; omega))).trans ((World.cell?_alloc_lt _ _ _ (by exact lu7_8)).trans qu7_0_8)
              have qu7_1_9 : u9.cell? ⟨u7.heap.size, 1, none⟩ = some (.int .i64 zt) := (hb.cell (p := ⟨u7.heap.size, 1, none⟩) (Nat.lt_of_lt_of_le lu7_8 (by rw [World.size_alloc]; omega))).trans ((World.cell?_alloc_lt _ _ _ (by exact lu7_8)).trans qu7_1_8)
              have qu7_2_9 : u9.cell? ⟨u7.heap.size, 2, none⟩ = some (.int .i64 zp) := (hb.cell (p := ⟨u7.heap.size, 2, none⟩) (Nat.lt_of_lt_of_le lu7_8 (by rw [World.size_alloc]; omega))).trans ((World.cell?_alloc_lt _ _ _ (by exact lu7_8)).trans qu7_2_8)
              have qu7_3_9 : u9.cell? ⟨u7.heap.size, 3, none⟩ = some (.int .i64 zf) := (hb.cell (p := ⟨u7.heap.size, 3, none⟩) (Nat.lt_of_lt_of_le lu7_8 (by rw [World.size_alloc]; omega))).trans ((World.cell?_alloc_lt _ _ _ (by exact lu7_8)).trans qu7_3_8)
              have qu7_4_9 : u9.cell? ⟨u7.heap.size, 4, none⟩ = some (.bool zw) := (hb.cell (p := ⟨u7.heap.size, 4, none⟩) (Nat.lt_of_lt_of_le lu7_8 (by rw [World.size_alloc]; omega))).trans ((World.cell?_alloc_lt _ _ _ (by exact lu7_8)).trans qu7_4_8)
              have qu7_5_9 : u9.cell? ⟨u7.heap.size, 5, none⟩ = some (.bool zu) := (hb.cell (p := ⟨u7.heap.size, 5, none⟩) (Nat.lt_of_lt_of_le lu7_8 (by rw [World.size_alloc]; omega))).trans ((World.cell?_alloc_lt _ _ _ (by exact lu7_8)).trans qu7_5_8)
              have qu7_6_9 : u9.cell? ⟨u7.heap.size, 6, none⟩ = some (.bool zx) := (hb.cell (p := ⟨u7.heap.size, 6, none⟩) (Nat.lt_of_lt_of_le lu7_8 (by rw [World.size_alloc]; omega))).trans ((World.cell?_alloc_lt _ _ _ (by exact lu7_8)).trans qu7_6_8)
              have qu7_7_9 : u9.cell? ⟨u7.heap.size, 7, none⟩ = some (.bool true) := (hb.cell (p := ⟨u7.heap.size, 7, none⟩) (Nat.lt_of_lt_of_le lu7_8 (by rw [World.size_alloc]; omega))).trans ((World.cell?_alloc_lt _ _ _ (by exact lu7_8)).trans qu7_7_8)
              have qu7_8_9 : u9.cell? ⟨u7.heap.size, 8, none⟩ = some (.bool zd) := (hb.cell (p := ⟨u7.heap.size, 8, none⟩) (Nat.lt_of_lt_of_le lu7_8 (by rw [World.size_alloc]; omega))).trans ((World.cell?_alloc_lt _ _ _ (by exact lu7_8)).trans qu7_8_8)
              have lu7_9 : u7.heap.size < u9.heap.size := Nat.lt_of_lt_of_le (by rw [World.size_alloc]; omega) hb.size
              have qu8_0_9 : u9.cell? ⟨u8.heap.size, 0, none⟩ = some (.bool false) := (hb.cell (p := ⟨u8.heap.size, 0, none⟩) (by simp)).trans (by simp)
              have qu8_1_9 : u9.cell? ⟨u8.heap.size, 1, none⟩ = some (.int .i64 0) := (hb.cell (p := ⟨u8.heap.size, 1, none⟩) (by simp)).trans (by simp)
              have qu8_2_9 : u9.cell? ⟨u8.heap.size, 2, none⟩ = some (.int .i64 0) := (hb.cell (p := ⟨u8.heap.size, 2, none⟩) (by simp)).trans (by simp)
              have qu8_3_9 : u9.cell? ⟨u8.heap.size, 3, none⟩ = some (.int .i64 0) := (hb.cell (p := ⟨u8.heap.size, 3, none⟩) (by simp)).trans (by simp)
              have qu8_4_9 : u9.cell? ⟨u8.heap.size, 4, none⟩ = some (.bool false) := (hb.cell (p := ⟨u8.heap.size, 4, none⟩) (by simp)).trans (by simp)
              have qu8_5_9 : u9.cell? ⟨u8.heap.size, 5, none⟩ = some (.bool false) := (hb.cell (p := ⟨u8.heap.size, 5, none⟩) (by simp)).trans (by simp)
              have qu8_6_9 : u9.cell? ⟨u8.heap.size, 6, none⟩ = some (.bool false) := (hb.cell (p := ⟨u8.heap.size, 6, none⟩) (by simp)).trans (by simp)
              have qu8_7_9 : u9.cell? ⟨u8.heap.size, 7, none⟩ = some (.bool false) := (hb.cell (p := ⟨u8.heap.size, 7, none⟩) (by simp)).trans (by simp)
              have qu8_8_9 : u9.cell? ⟨u8.heap.size, 8, none⟩ = some (.bool false) := (hb.cell (p := ⟨u8.heap.size, 8, none⟩) (by simp)).trans (by simp)
              have lu8_9 : u8.heap.size < u9.heap.size := Nat.lt_of_lt_of_le (by simp) hb.size
              clear lu7_8 qu7_0_8 qu7_1_8 qu7_2_8 qu7_3_8 qu7_4_8 qu7_5_8 qu7_6_8 qu7_7_8 qu7_8_8
              clear hb M8
              have lw9 : w.heap.size < u7.heap.size := by have := B7.out; omega
              have lw8 : w.heap.size < u8.heap.size := B8.out
              go_wp2_with fail
              refine (AX.out _ (M9.out.grow (Go.Joins.below_alloc1 _ _)).1).mono ?_
              rintro e u10 ⟨rfl, h1, h2⟩
              have M10 : Hid (Own4 w u10 (dropT T (fun l => !false || !l.g) 16) (dropT T (fun l => l.fits a1 a2) 16) (dropT T (fun l => l.t == a1 && !l.g) 16) (dropT T (fun l => !true || !l.g) 16)) := (M9.out.grow (Go.Joins.below_alloc1 _ _)).n0 h1 h2
              have qu7_0_10 : u10.cell? ⟨u7.heap.size, 0, none⟩ = some (.bool true) := cell_grown h2 (by rw [World.size_alloc]; omega) (by omega) ((World.cell?_alloc_lt _ _ _ (by exact lu7_9)).trans qu7_0_9)
              have qu7_1_10 : u10.cell? ⟨u7.heap.size, 1, none⟩ = some (.int .i64 zt) := cell_grown h2 (by rw [World.size_alloc]; omega) (by omega) ((World.cell?_alloc_lt _ _ _ (by exact lu7_9)).trans qu7_1_9)
              have qu7_2_10 : u10.cell? ⟨u7.heap.size, 2, none⟩ = some (.int .i64 zp) := cell_grown h2 (by rw [World.size_alloc]; omega) (by omega) ((World.cell?_alloc_lt _ _ _ (by exact lu7_9)).trans qu7_2_9)
              have qu7_3_10 : u10.cell? ⟨u7.heap.size, 3, none⟩ = some (.int .i64 zf) := cell_grown h2 (by rw [World.size_alloc]; omega) (by omega) ((World.cell?_alloc_lt _ _ _ (by exact lu7_9)).trans qu7_3_9)
              have qu7_4_10 : u10.cell? ⟨u7.heap.size, 4, none⟩ = some (.bool zw) := cell_grown h2 (by rw [World.size_alloc]; omega) (by omega) ((World.cell?_alloc_lt _ _ _ (by exact lu7_9)).trans qu7_4_9)
              have qu7_5_10 : u10.cell? ⟨u7.heap.size, 5, none⟩ = some (.bool zu) := cell_grown h2 (by rw [World.size_alloc]; omega) (by omega) ((World.cell?_alloc_lt _ _ _ (by exact lu7_9)).trans qu7_5_9)
              have qu7_6_10 : u10.cell? ⟨u7.heap.size, 6, none⟩ = some (.bool zx) := cell_grown h2 (by rw [World.size_alloc]; omega) (by omega) ((World.cell?_alloc_lt _ _ _ (by exact lu7_9)).trans qu7_6_9)
              have qu7_7_10 : u10.cell? ⟨u7.heap.size, 7, none⟩ = some (.bool true) := cell_grown h2 (by rw [World.size_alloc]; omega) (by omega) ((World.cell?_alloc_lt _ _ _ (by exact lu7_9)).trans qu7_7_9)
              have qu7_8_10 : u10.cell? ⟨u7.heap.size, 8, none⟩ = some (.bool zd) := cell_grown h2 (by rw [World.size_alloc]; omega) (by omega) ((World.cell?_alloc_lt _ _ _ (by exact lu7_9)).trans qu7_8_9)
              have lu7_10 : u7.heap.size < u10.heap.size := Nat.lt_of_lt_of_le (by rw [World.size_alloc]; omega) h2.size
              have qu8_0_10 : u10.cell? ⟨u8.heap.size, 0, none⟩ = some (.bool false) := cell_grown h2 (by rw [World.size_alloc]; omega) (by omega) ((World.cell?_alloc_lt _ _ _ (by exact lu8_9)).trans qu8_0_9)
              have qu8_1_10 : u10.cell? ⟨u8.heap.size, 1, none⟩ = some (.int .i64 0) := cell_grown h2 (by rw [World.size_alloc]; omega) (by omega) ((World.cell?_alloc_lt _ _ _ (by exact lu8_9)).trans qu8_1_9)
              have qu8_2_10 : u10.cell? ⟨u8.heap.size, 2, none⟩ = some (.int .i64 0) := cell_grown h2 (by rw [World.size_alloc]; omega) (by omega) ((World.cell?_alloc_lt _ _ _ (by exact lu8_9)).trans qu8_2_9)
              have qu8_3_10 : u10.cell? ⟨u8.heap.size, 3, none⟩ = some (.int .i64 0) := cell_grown h2 (by rw [World.size_alloc]; omega) (by omega) ((World.cell?_alloc_lt _ _ _ (by exact lu8_9)).trans qu8_3_9)
              have qu8_4_10 : u10.cell? ⟨u8.heap.size, 4, none⟩ = some (.bool false) := cell_grown h2 (by rw [World.size_alloc]; omega) (by omega) ((World.cell?_alloc_lt _ _ _ (by exact lu8_9)).trans qu8_4_9)
              have qu8_5_10 : u10.cell? ⟨u8.heap.size, 5, none⟩ = some (.bool false) := cell_grown h2 (by rw [World.size_alloc]; omega) (by omega) ((World.cell?_alloc_lt _ _ _ (by exact lu8_9)).trans qu8_5_9)
              have qu8_6_10 : u10.cell? ⟨u8.heap.size, 6, none⟩ = some (.bool false) := cell_grown h2 (by rw [World.size_alloc]; omega) (by omega) ((World.cell?_alloc_lt _ _ _ (by exact lu8_9)).trans qu8_6_9)
              have qu8_7_10 : u10.cell? ⟨u8.heap.size, 7, none⟩ = some (.bool false) := cell_grown h2 (by rw [World.size_alloc]; omega) (by omega) ((World.cell?_alloc_lt _ _ _ (by exact lu8_9)).trans qu8_7_9)
              have qu8_8_10 : u10.cell? ⟨u8.heap.size, 8, none⟩ = some (.bool false) := cell_grown h2 (by rw [World.size_alloc]; omega) (by omega) ((World.cell?_alloc_lt _ _ _ (by exact lu8_9)).trans qu8_8_9)
              have lu8_10 : u8.heap.size < u10.heap.size := Nat.lt_of_lt_of_le (by rw [World.size_alloc]; omega) h2.size
              clear lu7_9 qu7_0_9 qu7_1_9 qu7_2_9 qu7_3_9 qu7_4_9 qu7_5_9 qu7_6_9 qu7_7_9 qu7_8_9
              clear lu8_9 qu8_0_9 qu8_1_9 qu8_2_9 qu8_3_9 qu8_4_9 qu8_5_9 qu8_6_9 qu8_7_9 qu8_8_9
              clear h1 h2 M9
              go_wp2_with fail
              refine (AW.out _).mono ?_
              rintro e u11 ⟨rfl, hb⟩
              have M11 : Hid (Own4 w u11 (dropT T (fun l => !false || !l.g) 16) (dropT T (fun l => l.fits a1 a2) 16) (dropT T (fun l => l.t == a1 && !l.g) 16) (dropT T (fun l => !true || !l.g) 16)) := M10.out.grow hb
              have qu7_0_11 : u11.cell? ⟨u7.heap.size, 0, none⟩ = some (.bool true) := (hb.cell (p := ⟨u7.heap.size, 0, none⟩) lu7_10).trans qu7_0_10
              have qu7_1_11 : u11.cell? ⟨u7.heap.size, 1, none⟩ = some (.int .i64 zt) := (hb.cell (p := ⟨u7.heap.size, 1, none⟩) lu7_10).trans qu7_1_10
              have qu7_2_11 : u11.cell? ⟨u7.heap.size, 2, none⟩ = some (.int .i64 zp) := (hb.cell (p := ⟨u7.heap.size, 2, none⟩) lu7_10).trans qu7_2_10
              have qu7_3_11 : u11.cell? ⟨u7.heap.size, 3, none⟩ = some (.int .i64 zf) := (hb.cell (p := ⟨u7.heap.size, 3, none⟩) lu7_10).trans qu7_3_10
              have qu7_4_11 : u11.cell? ⟨u7.heap.size, 4, none⟩ = some (.bool zw) := (hb.cell (p := ⟨u7.heap.size, 4, none⟩) lu7_10).trans qu7_4_10
              have qu7_5_11 : u11.cell? ⟨u7.heap.size, 5, none⟩ = some (.bool zu) := (hb.cell (p := ⟨u7.heap.size, 5, none⟩) lu7_10).trans qu7_5_10
              have qu7_6_11 : u11.cell? ⟨u7.heap.size, 6, none⟩ = some (.bool zx) := (hb.cell (p := ⟨u7.heap.size, 6, none⟩) lu7_10).trans qu7_6_10
              have qu7_7_11 : u11.cell? ⟨u7.heap.size, 7, none⟩ = some (.bool true) := (hb.cell (p := ⟨u7.heap.size, 7, none⟩) lu7_10).trans qu7_7_10
              have qu7_8_11 : u11.cell? ⟨u7.heap.size, 8, none⟩ = some (.bool zd) := (hb.cell (p := ⟨u7.heap.size, 8, none⟩) lu7_10).trans qu7_8_10
              have lu7_11 : u7.heap.size < u11.heap.size := Nat.lt_of_lt_of_le lu7_10 hb.size
              have qu8_0_11 : u11.cell? ⟨u8.heap.size, 0, none⟩ = some (.bool false) := (hb.cell (p := ⟨u8.heap.size, 0, none⟩) lu8_10).trans qu8_0_10
              have qu8_1_11 : u11.cell? ⟨u8.heap.size, 1, none⟩ = some (.int .i64 0) := (hb.cell (p := ⟨u8.heap.size, 1, none⟩) lu8_10).trans qu8_1_10
              have qu8_2_11 : u11.cell? ⟨u8.heap.size, 2, none⟩ = some (.int .i64 0) := (hb.cell (p := ⟨u8.heap.size, 2, none⟩) lu8_10).trans qu8_2_10
              have qu8_3_11 : u11.cell? ⟨u8.heap.size, 3, none⟩ = some (.int .i64 0) := (hb.cell (p := ⟨u8.heap.size, 3, none⟩) lu8_10).trans qu8_3_10
              have qu8_4_11 : u11.cell? ⟨u8.heap.size, 4, none⟩ = some (.bool false) := (hb.cell (p := ⟨u8.heap.size, 4, none⟩) lu8_10).trans qu8_4_10
              have qu8_5_11 : u11.cell? ⟨u8.heap.size, 5, none⟩ = some (.bool false) := (hb.cell (p := ⟨u8.heap.size, 5, none⟩) lu8_10).trans qu8_5_10
              have qu8_6_11 : u11.cell? ⟨u8.heap.size, 6, none⟩ = some (.bool false) := (hb.cell (p := ⟨u8.heap.size, 6, none⟩) lu8_10).trans qu8_6_10
              have qu8_7_11 : u11.cell? ⟨u8.heap.size, 7, none⟩ = some (.bool false) := (hb.cell (p := ⟨u8.heap.size, 7, none⟩) lu8_10).trans qu8_7_10
              have qu8_8_11 : u11.cell? ⟨u8.heap.size, 8, none⟩ = some (.bool false) := (hb.cell (p := ⟨u8.heap.size, 8, none⟩) lu8_10).trans qu8_8_10
              have lu8_11 : u8.heap.size < u11.heap.size := Nat.lt_of_lt_of_le lu8_10 hb.size
              clear lu7_10 qu7_0_10 qu7_1_10 qu7_2_10 qu7_3_10 qu7_4_10 qu7_5_10 qu7_6_10 qu7_7_10 qu7_8_10
              clear lu8_10 qu8_0_10 qu8_1_10 qu8_2_10 qu8_3_10 qu8_4_10 qu8_5_10 qu8_6_10 qu8_7_10 qu8_8_10
              clear hb M10
              go_wp2_with fail
              refine (LN.out _ M11.out.1).mono ?_
              rintro e u12 ⟨⟨pl, cl, rfl⟩, hb⟩
              have M12 : Hid (Own4 w u12 (dropT T (fun l => !false || !l.g) 16) (dropT T (fun l => l.fits a1 a2) 16) (dropT T (fun l => l.t == a1 && !l.g) 16) (dropT T (fun l => !true || !l.g) 16)) := M11.out.grow hb
              clear hb
              go_wp2_with fail
              go_ret
              exact ⟨rfl, M12.out.2.2.2.2⟩
            · have hd : decide ((k : Int) < (n0 : Int)) = false := by simp; omega
              go_wp2_with fail
              refine (PG.out _ hM.out.2.1).mono ?_
              rintro e u1 ⟨rfl, h1, h2⟩
              have M1 : Hid (Own4 w u1 T (dropT T (fun l => l.fits a1 a2) 16) T T) := hM.out.n1 h1 h2
              clear h1 h2
              go_wp2_with fail
              refine (TA.out _ M1.out.2.2.1).mono ?_
              rintro e u2 ⟨rfl, h1, h2⟩
              have M2 : Hid (Own4 w u2 T (dropT T (fun l => l.fits a1 a2) 16) (dropT T (fun l => l.t == a1 && !l.g) 16) T) := M1.out.n2 h1 h2
              clear h1 h2 M1
              go_wp2_with fail
              refine (AL.out _ M2.out.2.2.2.1).mono ?_
              rintro e u3 ⟨rfl, h1, h2⟩
              have M3 : Hid (Own4 w u3 T (dropT T (fun l => l.fits a1 a2) 16) (dropT T (fun l => l.t == a1 && !l.g) 16) (dropT T (fun l => !true || !l.g) 16)) := M2.out.n3 h1 h2
              clear h1 h2 M2
              go_wp2_with fail
              refine (FA.out _ M3.out.2.1).mono ?_
              rintro e u4 ⟨rfl, hb⟩
              have M4 : Hid (Own4 w u4 T (dropT T (fun l => l.fits a1 a2) 16) (dropT T (fun l => l.t == a1 && !l.g) 16) (dropT T (fun l => !true || !l.g) 16)) := M3.out.grow hb
              clear hb M3
              go_wp2_with fail
              refine (FB.out _ (M4.out.grow (Go.Joins.below_alloc1 _ _)).2.2.1).mono ?_
              rintro e u5 ⟨rfl, hb⟩
              have M5 : Hid (Own4 w u5 T (dropT T (fun l => l.fits a1 a2) 16) (dropT T (fun l => l.t == a1 && !l.g) 16) (dropT T (fun l => !true || !l.g) 16)) := (M4.out.grow (Go.Joins.below_alloc1 _ _)).grow hb
              have lu4_5 : u4.heap.size < u5.heap.size := Nat.lt_of_lt_of_le (by simp) hb.size
              clear hb M4
              go_wp2_with fail
              refine (FC.out _ (M5.out.grow (Go.Joins.below_alloc1 _ _)).2.2.2.1).mono ?_
              rintro e u6 ⟨rfl, hb⟩
              have M6 : Hid (Own4 w u6 T (dropT T (fun l => l.fits a1 a2) 16) (dropT T (fun l => l.t == a1 && !l.g) 16) (dropT T (fun l => !true || !l.g) 16)) := (M5.out.grow (Go.Joins.below_alloc1 _ _)).grow hb
              have lu4_6 : u4.heap.size < u6.heap.size := Nat.lt_of_lt_of_le (by rw [World.size_alloc]; omega) hb.size
              have qu5_7_6 : u6.cell? ⟨u5.heap.size, 7, none⟩ = some (.bool true) := (hb.cell (p := ⟨u5.heap.size, 7, none⟩) (by simp)).trans (by simp)
              have lu5_6 : u5.heap.size < u6.heap.size := Nat.lt_of_lt_of_le (by simp) hb.size
              clear lu4_5 
              clear hb M5
              go_wp2_with fail
              refine (FZ.out _ (M6.out.grow (Go.Joins.below_alloc1 _ _)).1).mono ?_
              rintro e u7 ⟨rfl, hb⟩
              have B7 : Hid (w.heap.size < u7.heap.size) := Nat.lt_of_lt_of_le (Nat.lt_of_lt_of_le M6.out.1.2.2 (by simp)) hb.size
              have M7 : Hid (Own4 w u7 T (dropT T (fun l => l.fits a1 a2) 16) (dropT T (fun l => l.t == a1 && !l.g) 16) (dropT T (fun l => !true || !l.g) 16)) := (M6.out.grow (Go.Joins.below_alloc1 _ _)).grow hb
              have lu4_7 : u4.heap.size < u7.heap.size := Nat.lt_of_lt_of_le (by rw [World.size_alloc]; omega) hb.size
              have qu5_7_7 : u7.cell? ⟨u5.heap.size, 7, none⟩ = some (.bool true) := (hb.cell (p := ⟨u5.heap.size, 7, none⟩) (Nat.lt_of_lt_of_le lu5_6 (by rw [World.size_alloc]; omega))).trans ((World.cell?_alloc_lt _ _ _ (by exact lu5_6)).trans qu5_7_6)
              have lu5_7 : u5.heap.size < u7.heap.size := Nat.lt_of_lt_of_le (by rw [World.size_alloc]; omega) hb.size
              have qu6_7_7 : u7.cell? ⟨u6.heap.size, 7, none⟩ = some (.bool true) := (hb.cell (p := ⟨u6.heap.size, 7, none⟩) (by simp)).trans (by simp)
              have lu6_7 : u6.heap.size < u7.heap.size := Nat.lt_of_lt_of_le (by simp) hb.size
              clear lu4_6 
              clear lu5_6 qu5_7_6
              clear hb M6
              go_wp2_with fail
              refine (FK.out _ (M7.out.grow (Go.Joins.below_alloc1 _ _)).2.1).mono ?_
              rintro e u8 ⟨rfl, hb⟩
              have M8 : Hid (Own4 w u8 T (dropT T (fun l => l.fits a1 a2) 16) (dropT T (fun l => l.t == a1 && !l.g) 16) (dropT T (fun l => !true || !l.g) 16)) := (M7.out.grow (Go.Joins.below_alloc1 _ _)).grow hb
              have B8 : Hid (w.heap.size < u8.heap.size) := M8.out.1.2.2
              have qu7_0_8 : u8.cell? ⟨u7.heap.size, 0, none⟩ = some (.bool true) := (hb.cell (p := ⟨u7.heap.size, 0, none⟩) (by simp)).trans (by simp)
              have qu7_1_8 : u8.cell? ⟨u7.heap.size, 1, none⟩ = some (.int .i64 zt) := (hb.cell (p := ⟨u7.heap.size, 1, none⟩) (by simp)).trans (by simp)
              have qu7_2_8 : u8.cell? ⟨u7.heap.size, 2, none⟩ = some (.int .i64 zp) := (hb.cell (p := ⟨u7.heap.size, 2, none⟩) (by simp)).trans (by simp)
              have qu7_3_8 : u8.cell? ⟨u7.heap.size, 3, none⟩ = some (.int .i64 zf) := (hb.cell (p := ⟨u7.heap.size, 3, none⟩) (by simp)).trans (by simp)
              have qu7_4_8 : u8.cell? ⟨u7.heap.size, 4, none⟩ = some (.bool zw) := (hb.cell (p := ⟨u7.heap.size, 4, none⟩) (by simp)).trans (by simp)
              have qu7_5_8 : u8.cell? ⟨u7.heap.size, 5, none⟩ = some (.bool zu) := (hb.cell (p := ⟨u7.heap.size, 5, none⟩) (by simp)).trans (by simp)
              have qu7_6_8 : u8.cell? ⟨u7.heap.size, 6, none⟩ = some (.bool zx) := (hb.cell (p := ⟨u7.heap.size, 6, none⟩) (by simp)).trans (by simp)
              have qu7_7_8 : u8.cell? ⟨u7.heap.size, 7, none⟩ = some (.bool true) := (hb.cell (p := ⟨u7.heap.size, 7, none⟩) (by simp)).trans (by simp)
              have qu7_8_8 : u8.cell? ⟨u7.heap.size, 8, none⟩ = some (.bool zd) := (hb.cell (p := ⟨u7.heap.size, 8, none⟩) (by simp)).trans (by simp)
              have lu7_8 : u7.heap.size < u8.heap.size := Nat.lt_of_lt_of_le (by simp) hb.size
              clear hb M7
              go_wp2_with fail
              refine (FF.out _ (M8.out.grow (Go.Joins.below_alloc1 _ _)).2.2.1).mono ?_
              rintro e u9 ⟨rfl, hb⟩
              have M9 : Hid (Own4 w u9 T (dropT T (fun l => l.fits a1 a2) 16) (dropT T (fun l => l.t == a1 && !l.g) 16) (dropT T (fun l => !true || !l.g) 16)) := (M8.out.grow (Go.Joins.below_alloc1 _ _)).grow hb
              have qu7_0_9 : u9.cell? ⟨u7.heap.size, 0, none⟩ = some (.bool true) := (hb.cell (p := ⟨u7.heap.size, 0, none⟩) (Nat.lt_of_lt_of_le lu7_8 (by rw [World.size_alloc]; omega))).trans ((World.cell?_alloc_lt _ _ _ (by exact lu7_8)).trans qu7_0_8)
              have qu7_1_9 : u9.cell? ⟨u7.heap.size, 1, none⟩ = some (.int .i64 zt) := (hb.cell (p := ⟨u7.heap.size, 1, none⟩) (Nat.lt_of_lt_of_le lu7_8 (by rw [World.size_alloc]; omega))).trans ((World.cell?_alloc_lt _ _ _ (by exact lu7_8)).trans qu7_1_8)
              have qu7_2_9 : u9.cell? ⟨u7.heap.size, 2, none⟩ = some (.int .i64 zp) := (hb.cell (p := ⟨u7.heap.size, 2, none⟩) (Nat.lt_of_lt_of_le lu7_8 (by rw [World.size_alloc]; omega))).trans ((World.cell?_alloc_lt _ _ _ (by exact lu7_8)).trans qu7_2_8)
              have qu7_3_9 : u9.cell? ⟨u7.heap.size, 3, none⟩ = some (.int .i64 zf) := (hb.cell (p := ⟨u7.heap.size, 3, none⟩) (Nat.lt_of_lt_of_le lu7_8 (by rw [World.size_alloc]; omega))).trans ((World.cell?_alloc_lt _ _ _ (by exact lu7_8)).trans qu7_3_8)
              have qu7_4_9 : u9.cell? ⟨u7.heap.size, 4, none⟩ = some (.bool zw) := (hb.cell (p := ⟨u7.heap.size, 4, none⟩) (Nat.lt_of_lt_of_le lu7_8 (by rw [World.size_alloc]; omega))).trans ((World.cell?_alloc_lt _ _ _ (by exact lu7_8)).trans qu7_4_8)
              have qu7_5_9 : u9.cell? ⟨u7.heap.size, 5, none⟩ = some (.bool zu) := (hb.cell (p := ⟨u7.heap.size, 5, none⟩) (Nat.lt_of_lt_of_le lu7_8 (by rw [World.size_alloc]; omega))).trans ((World.cell?_alloc_lt _ _ _ (by exact lu7_8)).trans qu7_5_8)
              have qu7_6_9 : u9.cell? ⟨u7.heap.size, 6, none⟩ = some (.bool zx) := (hb.cell (p := ⟨u7.heap.size, 6, none⟩) (Nat.lt_of_lt_of_le lu7_8 (by rw [World.size_alloc]; omega))).trans ((World.cell?_alloc_lt _ _ _ (by exact lu7_8)).trans qu7_6_8)
              have qu7_7_9 : u9.cell? ⟨u7.heap.size, 7, none⟩ = some (.bool true) := (hb.cell (p := ⟨u7.heap.size, 7, none⟩) (Nat.lt_of_lt_of_le lu7_8 (by rw [World.size_alloc]; omega))).trans ((World.cell?_alloc_lt _ _ _ (by exact lu7_8)).trans qu7_7_8)
              have qu7_8_9 : u9.cell? ⟨u7.heap.size, 8, none⟩ = some (.bool zd) := (hb.cell (p := ⟨u7.heap.size, 8, none⟩) (Nat.lt_of_lt_of_le lu7_8 (by rw [World.size_alloc]; omega))).trans ((World.cell?_alloc_lt _ _ _ (by exact lu7_8)).trans qu7_8_8)
              have lu7_9 : u7.heap.size < u9.heap.size := Nat.lt_of_lt_of_le (by rw [World.size_alloc]; omega) hb.size
              have qu8_0_9 : u9.cell? ⟨u8.heap.size, 0, none⟩ = some (.bool false) := (hb.cell (p := ⟨u8.heap.size, 0, none⟩) (by simp)).trans (by simp)
              have qu8_1_9 : u9.cell? ⟨u8.heap.size, 1, none⟩ = some (.int .i64 0) := (hb.cell (p := ⟨u8.heap.size, 1, none⟩) (by simp)).trans (by simp)
              have qu8_2_9 : u9.cell? ⟨u8.heap.size, 2, none⟩ = some (.int .i64 0) := (hb.cell (p := ⟨u8.heap.size, 2, none⟩) (by simp)).trans (by simp)
              have qu8_3_9 : u9.cell? ⟨u8.heap.size, 3, none⟩ = some (.int .i64 0) := (hb.cell (p := ⟨u8.heap.size, 3, none⟩) (by simp)).trans (by simp)
              have qu8_4_9 : u9.cell? ⟨u8.heap.size, 4, none⟩ = some (.bool false) := (hb.cell (p := ⟨u8.heap.size, 4, none⟩) (by simp)).trans (by simp)
              have qu8_5_9 : u9.cell? ⟨u8.heap.size, 5, none⟩ = some (.bool false) := (hb.cell (p := ⟨u8.heap.size, 5, none⟩) (by simp)).trans (by simp)
              have qu8_6_9 : u9.cell? ⟨u8.heap.size, 6, none⟩ = some (.bool false) := (hb.cell (p := ⟨u8.heap.size, 6, none⟩) (by simp)).trans (by simp)
              have qu8_7_9 : u9.cell? ⟨u8.heap.size, 7, none⟩ = some (.bool false) := (hb.cell (p := ⟨u8.heap.size, 7, none⟩) (by simp)).trans (by simp)
              have qu8_8_9 : u9.cell? ⟨u8.heap.size, 8, none⟩ = some (.bool false) := (hb.cell (p := ⟨u8.heap.size, 8, none⟩) (by simp)).trans (by simp)
              have lu8_9 : u8.heap.size < u9.heap.size := Nat.lt_of_lt_of_le (by simp) hb.size
              clear lu7_8 qu7_0_8 qu7_1_8 qu7_2_8 qu7_3_8 qu7_4_8 qu7_5_8 qu7_6_8 qu7_7_8 qu7_8_8
              clear hb M8
              have lw9 : w.heap.size < u7.heap.size := by have := B7.out; omega
              have lw8 : w.heap.size < u8.heap.size := B8.out
              go_wp2_with fail
              refine (AX.out _ (M9.out.grow (Go.Joins.below_alloc1 _ _)).1).mono ?_
              rintro e u10 ⟨rfl, h1, h2⟩
              have M10 : Hid (Own4 w u10 (dropT T (fun l => !false || !l.g) 16) (dropT T (fun l => l.fits a1 a2) 16) (dropT T (fun l => l.t == a1 && !l.g) 16) (dropT T (fun l => !true || !l.g) 16)) := (M9.out.grow (Go.Joins.below_alloc1 _ _)).n0 h1 h2
              have qu7_0_10 : u10.cell? ⟨u7.heap.size, 0, none⟩ = some (.bool true) := cell_grown h2 (by rw [World.size_alloc]; omega) (by omega) ((World.cell?_alloc_lt _ _ _ (by exact lu7_9)).trans qu7_0_9)
              have qu7_1_10 : u10.cell? ⟨u7.heap.size, 1, none⟩ = some (.int .i64 zt) := cell_grown h2 (by rw [World.size_alloc]; omega) (by omega) ((World.cell?_alloc_lt _ _ _ (by exact lu7_9)).trans qu7_1_9)
              have qu7_2_10 : u10.cell? ⟨u7.heap.size, 2, none⟩ = some (.int .i64 zp) := cell_grown h2 (by rw [World.size_alloc]; omega) (by omega) ((World.cell?_alloc_lt _ _ _ (by exact lu7_9)).trans qu7_2_9)
              have qu7_3_10 : u10.cell? ⟨u7.heap.size, 3, none⟩ = some (.int .i64 zf) := cell_grown h2 (by rw [World.size_alloc]; omega) (by omega) ((World.cell?_alloc_lt _ _ _ (by exact lu7_9)).trans qu7_3_9)
              have qu7_4_10 : u10.cell? ⟨u7.heap.size, 4, none⟩ = some (.bool zw) := cell_grown h2 (by rw [World.size_alloc]; omega) (by omega) ((World.cell?_alloc_lt _ _ _ (by exact lu7_9)).trans qu7_4_9)
              have qu7_5_10 : u10.cell? ⟨u7.heap.size, 5, none⟩ = some (.bool zu) := cell_grown h2 (by rw [World.size_alloc]; omega) (by omega) ((World.cell?_alloc_lt _ _ _ (by exact lu7_9)).trans qu7_5_9)
              have qu7_6_10 : u10.cell? ⟨u7.heap.size, 6, none⟩ = some (.bool zx) := cell_grown h2 (by rw [World.size_alloc]; omega) (by omega) ((World.cell?_alloc_lt _ _ _ (by exact lu7_9)).trans qu7_6_9)
              have qu7_7_10 : u10.cell? ⟨u7.heap.size, 7, none⟩ = some (.bool true) := cell_grown h2 (by rw [World.size_alloc]; omega) (by omega) ((World.cell?_alloc_lt _ _ _ (by exact lu7_9)).trans qu7_7_9)
              have qu7_8_10 : u10.cell? ⟨u7.heap.size, 8, none⟩ = some (.bool zd) := cell_grown h2 (by rw [World.size_alloc]; omega) (by omega) ((World.cell?_alloc_lt _ _ _ (by exact lu7_9)).trans qu7_8_9)
              have lu7_10 : u7.heap.size < u10.heap.size := Nat.lt_of_lt_of_le (by rw [World.size_alloc]; omega) h2.size
              have qu8_0_10 : u10.cell? ⟨u8.heap.size, 0, none⟩ = some (.bool false) := cell_grown h2 (by rw [World.size_alloc]; omega) (by omega) ((World.cell?_alloc_lt _ _ _ (by exact lu8_9)).trans qu8_0_9)
              have qu8_1_10 : u10.cell? ⟨u8.heap.size, 1, none⟩ = some (.int .i64 0) := cell_grown h2 (by rw [World.size_alloc]; omega) (by omega) ((World.cell?_alloc_lt _ _ _ (by exact lu8_9)).trans qu8_1_9)
              have qu8_2_10 : u10.cell? ⟨u8.heap.size, 2, none⟩ = some (.int .i64 0) := cell_grown h2 (by rw [World.size_alloc]; omega) (by omega) ((World.cell?_alloc_lt _ _ _ (by exact lu8_9)).trans qu8_2_9)
              have qu8_3_10 : u10.cell? ⟨u8.heap.size, 3, none⟩ = some (.int .i64 0) := cell_grown h2 (by rw [World.size_alloc]; omega) (by omega) ((World.cell?_alloc_lt _ _ _ (by exact lu8_9)).trans qu8_3_9)
              have qu8_4_10 : u10.cell? ⟨u8.heap.size, 4, none⟩ = some (.bool false) := cell_grown h2 (by rw [World.size_alloc]; omega) (by omega) ((World.cell?_alloc_lt _ _ _ (by exact lu8_9)).trans qu8_4_9)
              have qu8_5_10 : u10.cell? ⟨u8.heap.size, 5, none⟩ = some (.bool false) := cell_grown h2 (by rw [World.size_alloc]; omega) (by omega) ((World.cell?_alloc_lt _ _ _ (by exact lu8_9)).trans qu8_5_9)
              have qu8_6_10 : u10.cell? ⟨u8.heap.size, 6, none⟩ = some (.bool false) := cell_grown h2 (by rw [World.size_alloc]; omega) (by omega) ((World.cell?_alloc_lt _ _ _ (by exact lu8_9)).trans qu8_6_9)
              have qu8_7_10 : u10.cell? ⟨u8.heap.size, 7, none⟩ = some (.bool false) := cell_grown h2 (by rw [World.size_alloc]; omega) (by omega) ((World.cell?_alloc_lt _ _ _ (by exact lu8_9)).trans qu8_7_9)
              have qu8_8_10 : u10.cell? ⟨u8.heap.size, 8, none⟩ = some (.bool false) := cell_grown h2 (by rw [World.size_alloc]; omega) (by omega) ((World.cell?_alloc_lt _ _ _ (by exact lu8_9)).trans qu8_8_9)
              have lu8_10 : u8.heap.size < u10.heap.size := Nat.lt_of_lt_of_le (by rw [World.size_alloc]; omega) h2.size
              clear lu7_9 qu7_0_9 qu7_1_9 qu7_2_9 qu7_3_9 qu7_4_9 qu7_5_9 qu7_6_9 qu7_7_9 qu7_8_9
              clear lu8_9 qu8_0_9 qu8_1_9 qu8_2_9 qu8_3_9 qu8_4_9 qu8_5_9 qu8_6_9 qu8_7_9 qu8_8_9
              clear h1 h2 M9
              go_wp2_with fail
              refine (AW.out _).mono ?_
              rintro e u11 ⟨rfl, hb⟩
              have M11 : Hid (Own4 w u11 (dropT T (fun l => !false || !l.g) 16) (dropT T (fun l => l.fits a1 a2) 16) (dropT T (fun l => l.t == a1 && !l.g) 16) (dropT T (fun l => !true || !l.g) 16)) := M10.out.grow hb
              have qu7_0_11 : u11.cell? ⟨u7.heap.size, 0, none⟩ = some (.bool true) := (hb.cell (p := ⟨u7.heap.size, 0, none⟩) lu7_10).trans qu7_0_10
              have qu7_1_11 : u11.cell? ⟨u7.heap.size, 1, none⟩ = some (.int .i64 zt) := (hb.cell (p := ⟨u7.heap.size, 1, none⟩) lu7_10).trans qu7_1_10
              have qu7_2_11 : u11.cell? ⟨u7.heap.size, 2, none⟩ = some (.int .i64 zp) := (hb.cell (p := ⟨u7.heap.size, 2, none⟩) lu7_10).trans qu7_2_10
              have qu7_3_11 : u11.cell? ⟨u7.heap.size, 3, none⟩ = some (.int .i64 zf) := (hb.cell (p := ⟨u7.heap.size, 3, none⟩) lu7_10).trans qu7_3_10
              have qu7_4_11 : u11.cell? ⟨u7.heap.size, 4, none⟩ = some (.bool zw) := (hb.cell (p := ⟨u7.heap.size, 4, none⟩) lu7_10).trans qu7_4_10
              have qu7_5_11 : u11.cell? ⟨u7.heap.size, 5, none⟩ = some (.bool zu) := (hb.cell (p := ⟨u7.heap.size, 5, none⟩) lu7_10).trans qu7_5_10
              have qu7_6_11 : u11.cell? ⟨u7.heap.size, 6, none⟩ = some (.bool zx) := (hb.cell (p := ⟨u7.heap.size, 6, none⟩) lu7_10).trans qu7_6_10
              have qu7_7_11 : u11.cell? ⟨u7.heap.size, 7, none⟩ = some (.bool true) := (hb.cell (p := ⟨u7.heap.size, 7, none⟩) lu7_10).trans qu7_7_10
              have qu7_8_11 : u11.cell? ⟨u7.heap.size, 8, none⟩ = some (.bool zd) := (hb.cell (p := ⟨u7.heap.size, 8, none⟩) lu7_10).trans qu7_8_10
              have lu7_11 : u7.heap.size < u11.heap.size := Nat.lt_of_lt_of_le lu7_10 hb.size
              have qu8_0_11 : u11.cell? ⟨u8.heap.size, 0, none⟩ = some (.bool false) := (hb.cell (p := ⟨u8.heap.size, 0, none⟩) lu8_10).trans qu8_0_10
              have qu8_1_11 : u11.cell? ⟨u8.heap.size, 1, none⟩ = some (.int .i64 0) := (hb.cell (p := ⟨u8.heap.size, 1, none⟩) lu8_10).trans qu8_1_10
              have qu8_2_11 : u11.cell? ⟨u8.heap.size, 2, none⟩ = some (.int .i64 0) := (hb.cell (p := ⟨u8.heap.size, 2, none⟩) lu8_10).trans qu8_2_10
              have qu8_3_11 : u11.cell? ⟨u8.heap.size, 3, none⟩ = some (.int .i64 0) := (hb.cell (p := ⟨u8.heap.size, 3, none⟩) lu8_10).trans qu8_3_10
              have qu8_4_11 : u11.cell? ⟨u8.heap.size, 4, none⟩ = some (.bool false) := (hb.cell (p := ⟨u8.heap.size, 4, none⟩) lu8_10).trans qu8_4_10
              have qu8_5_11 : u11.cell? ⟨u8.heap.size, 5, none⟩ = some (.bool false) := (hb.cell (p := ⟨u8.heap.size, 5, none⟩) lu8_10).trans qu8_5_10
              have qu8_6_11 : u11.cell? ⟨u8.heap.size, 6, none⟩ = some (.bool false) := (hb.cell (p := ⟨u8.heap.size, 6, none⟩) lu8_10).trans qu8_6_10
              have qu8_7_11 : u11.cell? ⟨u8.heap.size, 7, none⟩ = some (.bool false) := (hb.cell (p := ⟨u8.heap.size, 7, none⟩) lu8_10).trans qu8_7_10
              have qu8_8_11 : u11.cell? ⟨u8.heap.size, 8, none⟩ = some (.bool false) := (hb.cell (p := ⟨u8.heap.size, 8, none⟩) lu8_10).trans qu8_8_10
              have lu8_11 : u8.heap.size < u11.heap.size := Nat.lt_of_lt_of_le lu8_10 hb.size
              clear lu7_10 qu7_0_10 qu7_1_10 qu7_2_10 qu7_3_10 qu7_4_10 qu7_5_10 qu7_6_10 qu7_7_10 qu7_8_10
              clear lu8_10 qu8_0_10 qu8_1_10 qu8_2_10 qu8_3_10 qu8_4_10 qu8_5_10 qu8_6_10 qu8_7_10 qu8_8_10
              clear hb M10
              go_wp2_with fail
              refine (LN.out _ M11.out.1).mono ?_
              rintro e u12 ⟨⟨pl, cl, rfl⟩, hb⟩
              have M12 : Hid (Own4 w u12 (dropT T (fun l => !false || !l.g) 16) (dropT T (fun l => l.fits a1 a2) 16) (dropT T (fun l => l.t == a1 && !l.g) 16) (dropT T (fun l => !true || !l.g) 16)) := M11.out.grow hb
              clear hb
              go_wp2_with fail
              go_ret
              exact ⟨rfl, M12.out.2.2.2.2⟩
          · have eb : (zp == a2) = false := by simp [hp]
            have rK : Ln.fits ⟨true, zt, zp, zf, zw, zu, zx, true, zd⟩ a1 a2 = false := by unfold Ln.fits; simp [hp]
            clear fz3 rZ hp
            have FA : Hid (∀ W : World, IsTlb W (w.heap.size + 1) (dropT T (fun l => l.fits a1 a2) 16) → Calls Try.prog 13 #[.pointer (some ⟨(w.heap.size + 1), 0, none⟩), .int .i64 a1, .int .i64 a2] W fun e w' => e = .returned (.tuple #[.agg #[.bool false, .int .i64 0, .int .i64 0, .int .i64 0, .bool false, .bool false, .bool false, .bool false, .bool false], .bool false]) ∧ Below W.heap.size W w') := fun W h => by
              have := find_any (w.heap.size + 1) (dropT T (fun l => l.fits a1 a2) 16) a1 a2 W h
              rw [find_drop hG.out, rA] at this; exact this
            have FB : Hid (∀ W : World, IsTlb W (w.heap.size + 1 + 1) (dropT T (fun l => l.t == a1 && !l.g) 16) → Calls Try.prog 13 #[.pointer (some ⟨(w.heap.size + 1 + 1), 0, none⟩), .int .i64 a1, .int .i64 zp] W fun e w' => e = .returned (.tuple #[.agg #[.bool true, .int .i64 zt, .int .i64 zp, .int .i64 zf, .bool zw, .bool zu, .bool zx, .bool true, .bool zd], .bool true]) ∧ Below W.heap.size W w') := fun W h => by
              have := find_any (w.heap.size + 1 + 1) (dropT T (fun l => l.t == a1 && !l.g) 16) a1 zp W h
              rw [find_drop hG.out, hz3, if_pos (by simp)] at this; exact this
            have FC : Hid (∀ W : World, IsTlb W (w.heap.size + 1 + 1 + 1) (dropT T (fun l => !true || !l.g) 16) → Calls Try.prog 13 #[.pointer (some ⟨(w.heap.size + 1 + 1 + 1), 0, none⟩), .int .i64 a1, .int .i64 zp] W fun e w' => e = .returned (.tuple #[.agg #[.bool true, .int .i64 zt, .int .i64 zp, .int .i64 zf, .bool zw, .bool zu, .bool zx, .bool true, .bool zd], .bool true]) ∧ Below W.heap.size W w') := fun W h => by
              have := find_any (w.heap.size + 1 + 1 + 1) (dropT T (fun l => !true || !l.g) 16) a1 zp W h
              rw [find_drop hG.out, hz3, if_pos (by simp)] at this; exact this
            have FZ : Hid (∀ W : World, IsTlb W w.heap.size (T) → Calls Try.prog 13 #[.pointer (some ⟨w.heap.size, 0, none⟩), .int .i64 a1, .int .i64 zp] W fun e w' => e = .returned (.tuple #[.agg #[.bool true, .int .i64 zt, .int .i64 zp, .int .i64 zf, .bool zw, .bool zu, .bool zx, .bool true, .bool zd], .bool true]) ∧ Below W.heap.size W w') := fun W h => by
              have := find_any w.heap.size (T) a1 zp W h
              rw [hz3] at this; exact this
            have FK : Hid (∀ W : World, IsTlb W (w.heap.size + 1) (dropT T (fun l => l.fits a1 a2) 16) → Calls Try.prog 13 #[.pointer (some ⟨(w.heap.size + 1), 0, none⟩), .int .i64 a1, .int .i64 zp] W fun e w' => e = .returned (.tuple #[.agg #[.bool true, .int .i64 zt, .int .i64 zp, .int .i64 zf, .bool zw, .bool zu, .bool zx, .bool true, .bool zd], .bool true]) ∧ Below W.heap.size W w') := fun W h => by
              have := find_any (w.heap.size + 1) (dropT T (fun l => l.fits a1 a2) 16) a1 zp W h
              rw [find_drop hG.out, hz3, if_pos (by simp [rK])] at this; exact this
            have FF : Hid (∀ W : World, IsTlb W (w.heap.size + 1 + 1) (dropT T (fun l => l.t == a1 && !l.g) 16) → Calls Try.prog 13 #[.pointer (some ⟨(w.heap.size + 1 + 1), 0, none⟩), .int .i64 a1, .int .i64 zp] W fun e w' => e = .returned (.tuple #[.agg #[.bool true, .int .i64 zt, .int .i64 zp, .int .i64 zf, .bool zw, .bool zu, .bool zx, .bool true, .bool zd], .bool true]) ∧ Below W.heap.size W w') := fun W h => by
              have := find_any (w.heap.size + 1 + 1) (dropT T (fun l => l.t == a1 && !l.g) 16) a1 zp W h
              rw [find_drop hG.out, hz3, if_pos (by simp)] at this; exact this
            clear hG
            by_cases hq : k < n0
            · have hd : decide ((k : Int) < (n0 : Int)) = true := by simp; omega
              have hd2 : decide ((k : Int) < 60) = false := by simp; omega
              go_wp2_with fail
              refine (PG.out _ hM.out.2.1).mono ?_
              rintro e u1 ⟨rfl, h1, h2⟩
              have M1 : Hid (Own4 w u1 T (dropT T (fun l => l.fits a1 a2) 16) T T) := hM.out.n1 h1 h2
              clear h1 h2
              go_wp2_with fail
              refine (TA.out _ M1.out.2.2.1).mono ?_
              rintro e u2 ⟨rfl, h1, h2⟩
              have M2 : Hid (Own4 w u2 T (dropT T (fun l => l.fits a1 a2) 16) (dropT T (fun l => l.t == a1 && !l.g) 16) T) := M1.out.n2 h1 h2
              clear h1 h2 M1
              go_wp2_with fail
              refine (AL.out _ M2.out.2.2.2.1).mono ?_
              rintro e u3 ⟨rfl, h1, h2⟩
              have M3 : Hid (Own4 w u3 T (dropT T (fun l => l.fits a1 a2) 16) (dropT T (fun l => l.t == a1 && !l.g) 16) (dropT T (fun l => !true || !l.g) 16)) := M2.out.n3 h1 h2
              clear h1 h2 M2
              go_wp2_with fail
              refine (FA.out _ M3.out.2.1).mono ?_
              rintro e u4 ⟨rfl, hb⟩
              have M4 : Hid (Own4 w u4 T (dropT T (fun l => l.fits a1 a2) 16) (dropT T (fun l => l.t == a1 && !l.g) 16) (dropT T (fun l => !true || !l.g) 16)) := M3.out.grow hb
              clear hb M3
              go_wp2_with fail
              refine (FB.out _ (M4.out.grow (Go.Joins.below_alloc1 _ _)).2.2.1).mono ?_
              rintro e u5 ⟨rfl, hb⟩
              have M5 : Hid (Own4 w u5 T (dropT T (fun l => l.fits a1 a2) 16) (dropT T (fun l => l.t == a1 && !l.g) 16) (dropT T (fun l => !true || !l.g) 16)) := (M4.out.grow (Go.Joins.below_alloc1 _ _)).grow hb
              have lu4_5 : u4.heap.size < u5.heap.size := Nat.lt_of_lt_of_le (by simp) hb.size
              clear hb M4
              go_wp2_with fail
              refine (FC.out _ (M5.out.grow (Go.Joins.below_alloc1 _ _)).2.2.2.1).mono ?_
              rintro e u6 ⟨rfl, hb⟩
              have M6 : Hid (Own4 w u6 T (dropT T (fun l => l.fits a1 a2) 16) (dropT T (fun l => l.t == a1 && !l.g) 16) (dropT T (fun l => !true || !l.g) 16)) := (M5.out.grow (Go.Joins.below_alloc1 _ _)).grow hb
              have lu4_6 : u4.heap.size < u6.heap.size := Nat.lt_of_lt_of_le (by rw [World.size_alloc]; omega) hb.size
              have qu5_7_6 : u6.cell? ⟨u5.heap.size, 7, none⟩ = some (.bool true) := (hb.cell (p := ⟨u5.heap.size, 7, none⟩) (by simp)).trans (by simp)
              have lu5_6 : u5.heap.size < u6.heap.size := Nat.lt_of_lt_of_le (by simp) hb.size
              clear lu4_5 
              clear hb M5
              go_wp2_with fail
              refine (FZ.out _ (M6.out.grow (Go.Joins.below_alloc1 _ _)).1).mono ?_
              rintro e u7 ⟨rfl, hb⟩
              have B7 : Hid (w.heap.size < u7.heap.size) := Nat.lt_of_lt_of_le (Nat.lt_of_lt_of_le M6.out.1.2.2 (by simp)) hb.size
              have M7 : Hid (Own4 w u7 T (dropT T (fun l => l.fits a1 a2) 16) (dropT T (fun l => l.t == a1 && !l.g) 16) (dropT T (fun l => !true || !l.g) 16)) := (M6.out.grow (Go.Joins.below_alloc1 _ _)).grow hb
              have lu4_7 : u4.heap.size < u7.heap.size := Nat.lt_of_lt_of_le (by rw [World.size_alloc]; omega) hb.size
              have qu5_7_7 : u7.cell? ⟨u5.heap.size, 7, none⟩ = some (.bool true) := (hb.cell (p := ⟨u5.heap.size, 7, none⟩) (Nat.lt_of_lt_of_le lu5_6 (by rw [World.size_alloc]; omega))).trans ((World.cell?_alloc_lt _ _ _ (by exact lu5_6)).trans qu5_7_6)
              have lu5_7 : u5.heap.size < u7.heap.size := Nat.lt_of_lt_of_le (by rw [World.size_alloc]; omega) hb.size
              have qu6_7_7 : u7.cell? ⟨u6.heap.size, 7, none⟩ = some (.bool true) := (hb.cell (p := ⟨u6.heap.size, 7, none⟩) (by simp)).trans (by simp)
              have lu6_7 : u6.heap.size < u7.heap.size := Nat.lt_of_lt_of_le (by simp) hb.size
              clear lu4_6 
              clear lu5_6 qu5_7_6
              clear hb M6
              go_wp2_with fail
              refine (FK.out _ (M7.out.grow (Go.Joins.below_alloc1 _ _)).2.1).mono ?_
              rintro e u8 ⟨rfl, hb⟩
              have M8 : Hid (Own4 w u8 T (dropT T (fun l => l.fits a1 a2) 16) (dropT T (fun l => l.t == a1 && !l.g) 16) (dropT T (fun l => !true || !l.g) 16)) := (M7.out.grow (Go.Joins.below_alloc1 _ _)).grow hb
              have B8 : Hid (w.heap.size < u8.heap.size) := M8.out.1.2.2
              have qu7_0_8 : u8.cell? ⟨u7.heap.size, 0, none⟩ = some (.bool true) := (hb.cell (p := ⟨u7.heap.size, 0, none⟩) (by simp)).trans (by simp)
              have qu7_1_8 : u8.cell? ⟨u7.heap.size, 1, none⟩ = some (.int .i64 zt) := (hb.cell (p := ⟨u7.heap.size, 1, none⟩) (by simp)).trans (by simp)
              have qu7_2_8 : u8.cell? ⟨u7.heap.size, 2, none⟩ = some (.int .i64 zp) := (hb.cell (p := ⟨u7.heap.size, 2, none⟩) (by simp)).trans (by simp)
              have qu7_3_8 : u8.cell? ⟨u7.heap.size, 3, none⟩ = some (.int .i64 zf) := (hb.cell (p := ⟨u7.heap.size, 3, none⟩) (by simp)).trans (by simp)
              have qu7_4_8 : u8.cell? ⟨u7.heap.size, 4, none⟩ = some (.bool zw) := (hb.cell (p := ⟨u7.heap.size, 4, none⟩) (by simp)).trans (by simp)
              have qu7_5_8 : u8.cell? ⟨u7.heap.size, 5, none⟩ = some (.bool zu) := (hb.cell (p := ⟨u7.heap.size, 5, none⟩) (by simp)).trans (by simp)
              have qu7_6_8 : u8.cell? ⟨u7.heap.size, 6, none⟩ = some (.bool zx) := (hb.cell (p := ⟨u7.heap.size, 6, none⟩) (by simp)).trans (by simp)
              have qu7_7_8 : u8.cell? ⟨u7.heap.size, 7, none⟩ = some (.bool true) := (hb.cell (p := ⟨u7.heap.size, 7, none⟩) (by simp)).trans (by simp)
              have qu7_8_8 : u8.cell? ⟨u7.heap.size, 8, none⟩ = some (.bool zd) := (hb.cell (p := ⟨u7.heap.size, 8, none⟩) (by simp)).trans (by simp)
              have lu7_8 : u7.heap.size < u8.heap.size := Nat.lt_of_lt_of_le (by simp) hb.size
              clear hb M7
              go_wp2_with fail
              refine (FF.out _ (M8.out.grow (Go.Joins.below_alloc1 _ _)).2.2.1).mono ?_
              rintro e u9 ⟨rfl, hb⟩
              have M9 : Hid (Own4 w u9 T (dropT T (fun l => l.fits a1 a2) 16) (dropT T (fun l => l.t == a1 && !l.g) 16) (dropT T (fun l => !true || !l.g) 16)) := (M8.out.grow (Go.Joins.below_alloc1 _ _)).grow hb
              have qu7_0_9 : u9.cell? ⟨u7.heap.size, 0, none⟩ = some (.bool true) := (hb.cell (p := ⟨u7.heap.size, 0, none⟩) (Nat.lt_of_lt_of_le lu7_8 (by rw [World.size_alloc]; omega))).trans ((World.cell?_alloc_lt _ _ _ (by exact lu7_8)).trans qu7_0_8)
              have qu7_1_9 : u9.cell? ⟨u7.heap.size, 1, none⟩ = some (.int .i64 zt) := (hb.cell (p := ⟨u7.heap.size, 1, none⟩) (Nat.lt_of_lt_of_le lu7_8 (by rw [World.size_alloc]; omega))).trans ((World.cell?_alloc_lt _ _ _ (by exact lu7_8)).trans qu7_1_8)
              have qu7_2_9 : u9.cell? ⟨u7.heap.size, 2, none⟩ = some (.int .i64 zp) := (hb.cell (p := ⟨u7.heap.size, 2, none⟩) (Nat.lt_of_lt_of_le lu7_8 (by rw [World.size_alloc]; omega))).trans ((World.cell?_alloc_lt _ _ _ (by exact lu7_8)).trans qu7_2_8)
              have qu7_3_9 : u9.cell? ⟨u7.heap.size, 3, none⟩ = some (.int .i64 zf) := (hb.cell (p := ⟨u7.heap.size, 3, none⟩) (Nat.lt_of_lt_of_le lu7_8 (by rw [World.size_alloc]; omega))).trans ((World.cell?_alloc_lt _ _ _ (by exact lu7_8)).trans qu7_3_8)
              have qu7_4_9 : u9.cell? ⟨u7.heap.size, 4, none⟩ = some (.bool zw) := (hb.cell (p := ⟨u7.heap.size, 4, none⟩) (Nat.lt_of_lt_of_le lu7_8 (by rw [World.size_alloc]; omega))).trans ((World.cell?_alloc_lt _ _ _ (by exact lu7_8)).trans qu7_4_8)
              have qu7_5_9 : u9.cell? ⟨u7.heap.size, 5, none⟩ = some (.bool zu) := (hb.cell (p := ⟨u7.heap.size, 5, none⟩) (Nat.lt_of_lt_of_le lu7_8 (by rw [World.size_alloc]; omega))).trans ((World.cell?_alloc_lt _ _ _ (by exact lu7_8)).trans qu7_5_8)
              have qu7_6_9 : u9.cell? ⟨u7.heap.size, 6, none⟩ = some (.bool zx) := (hb.cell (p := ⟨u7.heap.size, 6, none⟩) (Nat.lt_of_lt_of_le lu7_8 (by rw [World.size_alloc]; omega))).trans ((World.cell?_alloc_lt _ _ _ (by exact lu7_8)).trans qu7_6_8)
              have qu7_7_9 : u9.cell? ⟨u7.heap.size, 7, none⟩ = some (.bool true) := (hb.cell (p := ⟨u7.heap.size, 7, none⟩) (Nat.lt_of_lt_of_le lu7_8 (by rw [World.size_alloc]; omega))).trans ((World.cell?_alloc_lt _ _ _ (by exact lu7_8)).trans qu7_7_8)
              have qu7_8_9 : u9.cell? ⟨u7.heap.size, 8, none⟩ = some (.bool zd) := (hb.cell (p := ⟨u7.heap.size, 8, none⟩) (Nat.lt_of_lt_of_le lu7_8 (by rw [World.size_alloc]; omega))).trans ((World.cell?_alloc_lt _ _ _ (by exact lu7_8)).trans qu7_8_8)
              have lu7_9 : u7.heap.size < u9.heap.size := Nat.lt_of_lt_of_le (by rw [World.size_alloc]; omega) hb.size
              have qu8_0_9 : u9.cell? ⟨u8.heap.size, 0, none⟩ = some (.bool true) := (hb.cell (p := ⟨u8.heap.size, 0, none⟩) (by simp)).trans (by simp)
              have qu8_1_9 : u9.cell? ⟨u8.heap.size, 1, none⟩ = some (.int .i64 zt) := (hb.cell (p := ⟨u8.heap.size, 1, none⟩) (by simp)).trans (by simp)
              have qu8_2_9 : u9.cell? ⟨u8.heap.size, 2, none⟩ = some (.int .i64 zp) := (hb.cell (p := ⟨u8.heap.size, 2, none⟩) (by simp)).trans (by simp)
              have qu8_3_9 : u9.cell? ⟨u8.heap.size, 3, none⟩ = some (.int .i64 zf) := (hb.cell (p := ⟨u8.heap.size, 3, none⟩) (by simp)).trans (by simp)
              have qu8_4_9 : u9.cell? ⟨u8.heap.size, 4, none⟩ = some (.bool zw) := (hb.cell (p := ⟨u8.heap.size, 4, none⟩) (by simp)).trans (by simp)
              have qu8_5_9 : u9.cell? ⟨u8.heap.size, 5, none⟩ = some (.bool zu) := (hb.cell (p := ⟨u8.heap.size, 5, none⟩) (by simp)).trans (by simp)
              have qu8_6_9 : u9.cell? ⟨u8.heap.size, 6, none⟩ = some (.bool zx) := (hb.cell (p := ⟨u8.heap.size, 6, none⟩) (by simp)).trans (by simp)
              have qu8_7_9 : u9.cell? ⟨u8.heap.size, 7, none⟩ = some (.bool true) := (hb.cell (p := ⟨u8.heap.size, 7, none⟩) (by simp)).trans (by simp)
              have qu8_8_9 : u9.cell? ⟨u8.heap.size, 8, none⟩ = some (.bool zd) := (hb.cell (p := ⟨u8.heap.size, 8, none⟩) (by simp)).trans (by simp)
              have lu8_9 : u8.heap.size < u9.heap.size := Nat.lt_of_lt_of_le (by simp) hb.size
              clear lu7_8 qu7_0_8 qu7_1_8 qu7_2_8 qu7_3_8 qu7_4_8 qu7_5_8 qu7_6_8 qu7_7_8 qu7_8_8
              clear hb M8
              have lw9 : w.heap.size < u7.heap.size := by have := B7.out; omega
              have lw8 : w.heap.size < u8.heap.size := B8.out
              go_wp2_with fail
              refine (AX.out _ (M9.out.grow (Go.Joins.below_alloc1 _ _)).1).mono ?_
              rintro e u10 ⟨rfl, h1, h2⟩
              have M10 : Hid (Own4 w u10 (dropT T (fun l => !false || !l.g) 16) (dropT T (fun l => l.fits a1 a2) 16) (dropT T (fun l => l.t == a1 && !l.g) 16) (dropT T (fun l => !true || !l.g) 16)) := (M9.out.grow (Go.Joins.below_alloc1 _ _)).n0 h1 h2
              have qu7_0_10 : u10.cell? ⟨u7.heap.size, 0, none⟩ = some (.bool true) := cell_grown h2 (by rw [World.size_alloc]; omega) (by omega) ((World.cell?_alloc_lt _ _ _ (by exact lu7_9)).trans qu7_0_9)
              have qu7_1_10 : u10.cell? ⟨u7.heap.size, 1, none⟩ = some (.int .i64 zt) := cell_grown h2 (by rw [World.size_alloc]; omega) (by omega) ((World.cell?_alloc_lt _ _ _ (by exact lu7_9)).trans qu7_1_9)
              have qu7_2_10 : u10.cell? ⟨u7.heap.size, 2, none⟩ = some (.int .i64 zp) := cell_grown h2 (by rw [World.size_alloc]; omega) (by omega) ((World.cell?_alloc_lt _ _ _ (by exact lu7_9)).trans qu7_2_9)
              have qu7_3_10 : u10.cell? ⟨u7.heap.size, 3, none⟩ = some (.int .i64 zf) := cell_grown h2 (by rw [World.size_alloc]; omega) (by omega) ((World.cell?_alloc_lt _ _ _ (by exact lu7_9)).trans qu7_3_9)
              have qu7_4_10 : u10.cell? ⟨u7.heap.size, 4, none⟩ = some (.bool zw) := cell_grown h2 (by rw [World.size_alloc]; omega) (by omega) ((World.cell?_alloc_lt _ _ _ (by exact lu7_9)).trans qu7_4_9)
              have qu7_5_10 : u10.cell? ⟨u7.heap.size, 5, none⟩ = some (.bool zu) := cell_grown h2 (by rw [World.size_alloc]; omega) (by omega) ((World.cell?_alloc_lt _ _ _ (by exact lu7_9)).trans qu7_5_9)
              have qu7_6_10 : u10.cell? ⟨u7.heap.size, 6, none⟩ = some (.bool zx) := cell_grown h2 (by rw [World.size_alloc]; omega) (by omega) ((World.cell?_alloc_lt _ _ _ (by exact lu7_9)).trans qu7_6_9)
              have qu7_7_10 : u10.cell? ⟨u7.heap.size, 7, none⟩ = some (.bool true) := cell_grown h2 (by rw [World.size_alloc]; omega) (by omega) ((World.cell?_alloc_lt _ _ _ (by exact lu7_9)).trans qu7_7_9)
              have qu7_8_10 : u10.cell? ⟨u7.heap.size, 8, none⟩ = some (.bool zd) := cell_grown h2 (by rw [World.size_alloc]; omega) (by omega) ((World.cell?_alloc_lt _ _ _ (by exact lu7_9)).trans qu7_8_9)
              have lu7_10 : u7.heap.size < u10.heap.size := Nat.lt_of_lt_of_le (by rw [World.size_alloc]; omega) h2.size
              have qu8_0_10 : u10.cell? ⟨u8.heap.size, 0, none⟩ = some (.bool true) := cell_grown h2 (by rw [World.size_alloc]; omega) (by omega) ((World.cell?_alloc_lt _ _ _ (by exact lu8_9)).trans qu8_0_9)
              have qu8_1_10 : u10.cell? ⟨u8.heap.size, 1, none⟩ = some (.int .i64 zt) := cell_grown h2 (by rw [World.size_alloc]; omega) (by omega) ((World.cell?_alloc_lt _ _ _ (by exact lu8_9)).trans qu8_1_9)
              have qu8_2_10 : u10.cell? ⟨u8.heap.size, 2, none⟩ = some (.int .i64 zp) := cell_grown h2 (by rw [World.size_alloc]; omega) (by omega) ((World.cell?_alloc_lt _ _ _ (by exact lu8_9)).trans qu8_2_9)
              have qu8_3_10 : u10.cell? ⟨u8.heap.size, 3, none⟩ = some (.int .i64 zf) := cell_grown h2 (by rw [World.size_alloc]; omega) (by omega) ((World.cell?_alloc_lt _ _ _ (by exact lu8_9)).trans qu8_3_9)
              have qu8_4_10 : u10.cell? ⟨u8.heap.size, 4, none⟩ = some (.bool zw) := cell_grown h2 (by rw [World.size_alloc]; omega) (by omega) ((World.cell?_alloc_lt _ _ _ (by exact lu8_9)).trans qu8_4_9)
              have qu8_5_10 : u10.cell? ⟨u8.heap.size, 5, none⟩ = some (.bool zu) := cell_grown h2 (by rw [World.size_alloc]; omega) (by omega) ((World.cell?_alloc_lt _ _ _ (by exact lu8_9)).trans qu8_5_9)
              have qu8_6_10 : u10.cell? ⟨u8.heap.size, 6, none⟩ = some (.bool zx) := cell_grown h2 (by rw [World.size_alloc]; omega) (by omega) ((World.cell?_alloc_lt _ _ _ (by exact lu8_9)).trans qu8_6_9)
              have qu8_7_10 : u10.cell? ⟨u8.heap.size, 7, none⟩ = some (.bool true) := cell_grown h2 (by rw [World.size_alloc]; omega) (by omega) ((World.cell?_alloc_lt _ _ _ (by exact lu8_9)).trans qu8_7_9)
              have qu8_8_10 : u10.cell? ⟨u8.heap.size, 8, none⟩ = some (.bool zd) := cell_grown h2 (by rw [World.size_alloc]; omega) (by omega) ((World.cell?_alloc_lt _ _ _ (by exact lu8_9)).trans qu8_8_9)
              have lu8_10 : u8.heap.size < u10.heap.size := Nat.lt_of_lt_of_le (by rw [World.size_alloc]; omega) h2.size
              clear lu7_9 qu7_0_9 qu7_1_9 qu7_2_9 qu7_3_9 qu7_4_9 qu7_5_9 qu7_6_9 qu7_7_9 qu7_8_9
              clear lu8_9 qu8_0_9 qu8_1_9 qu8_2_9 qu8_3_9 qu8_4_9 qu8_5_9 qu8_6_9 qu8_7_9 qu8_8_9
              clear h1 h2 M9
              go_wp2_with fail
              refine (AW.out _).mono ?_
              rintro e u11 ⟨rfl, hb⟩
              have M11 : Hid (Own4 w u11 (dropT T (fun l => !false || !l.g) 16) (dropT T (fun l => l.fits a1 a2) 16) (dropT T (fun l => l.t == a1 && !l.g) 16) (dropT T (fun l => !true || !l.g) 16)) := M10.out.grow hb
              have qu7_0_11 : u11.cell? ⟨u7.heap.size, 0, none⟩ = some (.bool true) := (hb.cell (p := ⟨u7.heap.size, 0, none⟩) lu7_10).trans qu7_0_10
              have qu7_1_11 : u11.cell? ⟨u7.heap.size, 1, none⟩ = some (.int .i64 zt) := (hb.cell (p := ⟨u7.heap.size, 1, none⟩) lu7_10).trans qu7_1_10
              have qu7_2_11 : u11.cell? ⟨u7.heap.size, 2, none⟩ = some (.int .i64 zp) := (hb.cell (p := ⟨u7.heap.size, 2, none⟩) lu7_10).trans qu7_2_10
              have qu7_3_11 : u11.cell? ⟨u7.heap.size, 3, none⟩ = some (.int .i64 zf) := (hb.cell (p := ⟨u7.heap.size, 3, none⟩) lu7_10).trans qu7_3_10
              have qu7_4_11 : u11.cell? ⟨u7.heap.size, 4, none⟩ = some (.bool zw) := (hb.cell (p := ⟨u7.heap.size, 4, none⟩) lu7_10).trans qu7_4_10
              have qu7_5_11 : u11.cell? ⟨u7.heap.size, 5, none⟩ = some (.bool zu) := (hb.cell (p := ⟨u7.heap.size, 5, none⟩) lu7_10).trans qu7_5_10
              have qu7_6_11 : u11.cell? ⟨u7.heap.size, 6, none⟩ = some (.bool zx) := (hb.cell (p := ⟨u7.heap.size, 6, none⟩) lu7_10).trans qu7_6_10
              have qu7_7_11 : u11.cell? ⟨u7.heap.size, 7, none⟩ = some (.bool true) := (hb.cell (p := ⟨u7.heap.size, 7, none⟩) lu7_10).trans qu7_7_10
              have qu7_8_11 : u11.cell? ⟨u7.heap.size, 8, none⟩ = some (.bool zd) := (hb.cell (p := ⟨u7.heap.size, 8, none⟩) lu7_10).trans qu7_8_10
              have lu7_11 : u7.heap.size < u11.heap.size := Nat.lt_of_lt_of_le lu7_10 hb.size
              have qu8_0_11 : u11.cell? ⟨u8.heap.size, 0, none⟩ = some (.bool true) := (hb.cell (p := ⟨u8.heap.size, 0, none⟩) lu8_10).trans qu8_0_10
              have qu8_1_11 : u11.cell? ⟨u8.heap.size, 1, none⟩ = some (.int .i64 zt) := (hb.cell (p := ⟨u8.heap.size, 1, none⟩) lu8_10).trans qu8_1_10
              have qu8_2_11 : u11.cell? ⟨u8.heap.size, 2, none⟩ = some (.int .i64 zp) := (hb.cell (p := ⟨u8.heap.size, 2, none⟩) lu8_10).trans qu8_2_10
              have qu8_3_11 : u11.cell? ⟨u8.heap.size, 3, none⟩ = some (.int .i64 zf) := (hb.cell (p := ⟨u8.heap.size, 3, none⟩) lu8_10).trans qu8_3_10
              have qu8_4_11 : u11.cell? ⟨u8.heap.size, 4, none⟩ = some (.bool zw) := (hb.cell (p := ⟨u8.heap.size, 4, none⟩) lu8_10).trans qu8_4_10
              have qu8_5_11 : u11.cell? ⟨u8.heap.size, 5, none⟩ = some (.bool zu) := (hb.cell (p := ⟨u8.heap.size, 5, none⟩) lu8_10).trans qu8_5_10
              have qu8_6_11 : u11.cell? ⟨u8.heap.size, 6, none⟩ = some (.bool zx) := (hb.cell (p := ⟨u8.heap.size, 6, none⟩) lu8_10).trans qu8_6_10
              have qu8_7_11 : u11.cell? ⟨u8.heap.size, 7, none⟩ = some (.bool true) := (hb.cell (p := ⟨u8.heap.size, 7, none⟩) lu8_10).trans qu8_7_10
              have qu8_8_11 : u11.cell? ⟨u8.heap.size, 8, none⟩ = some (.bool zd) := (hb.cell (p := ⟨u8.heap.size, 8, none⟩) lu8_10).trans qu8_8_10
              have lu8_11 : u8.heap.size < u11.heap.size := Nat.lt_of_lt_of_le lu8_10 hb.size
              clear lu7_10 qu7_0_10 qu7_1_10 qu7_2_10 qu7_3_10 qu7_4_10 qu7_5_10 qu7_6_10 qu7_7_10 qu7_8_10
              clear lu8_10 qu8_0_10 qu8_1_10 qu8_2_10 qu8_3_10 qu8_4_10 qu8_5_10 qu8_6_10 qu8_7_10 qu8_8_10
              clear hb M10
              go_wp2_with fail
              refine (LN.out _ M11.out.1).mono ?_
              rintro e u12 ⟨⟨pl, cl, rfl⟩, hb⟩
              have M12 : Hid (Own4 w u12 (dropT T (fun l => !false || !l.g) 16) (dropT T (fun l => l.fits a1 a2) 16) (dropT T (fun l => l.t == a1 && !l.g) 16) (dropT T (fun l => !true || !l.g) 16)) := M11.out.grow hb
              clear hb
              go_wp2_with fail
              go_ret
              exact ⟨rfl, M12.out.2.2.2.2⟩
            · have hd : decide ((k : Int) < (n0 : Int)) = false := by simp; omega
              go_wp2_with fail
              refine (PG.out _ hM.out.2.1).mono ?_
              rintro e u1 ⟨rfl, h1, h2⟩
              have M1 : Hid (Own4 w u1 T (dropT T (fun l => l.fits a1 a2) 16) T T) := hM.out.n1 h1 h2
              clear h1 h2
              go_wp2_with fail
              refine (TA.out _ M1.out.2.2.1).mono ?_
              rintro e u2 ⟨rfl, h1, h2⟩
              have M2 : Hid (Own4 w u2 T (dropT T (fun l => l.fits a1 a2) 16) (dropT T (fun l => l.t == a1 && !l.g) 16) T) := M1.out.n2 h1 h2
              clear h1 h2 M1
              go_wp2_with fail
              refine (AL.out _ M2.out.2.2.2.1).mono ?_
              rintro e u3 ⟨rfl, h1, h2⟩
              have M3 : Hid (Own4 w u3 T (dropT T (fun l => l.fits a1 a2) 16) (dropT T (fun l => l.t == a1 && !l.g) 16) (dropT T (fun l => !true || !l.g) 16)) := M2.out.n3 h1 h2
              clear h1 h2 M2
              go_wp2_with fail
              refine (FA.out _ M3.out.2.1).mono ?_
              rintro e u4 ⟨rfl, hb⟩
              have M4 : Hid (Own4 w u4 T (dropT T (fun l => l.fits a1 a2) 16) (dropT T (fun l => l.t == a1 && !l.g) 16) (dropT T (fun l => !true || !l.g) 16)) := M3.out.grow hb
              clear hb M3
              go_wp2_with fail
              refine (FB.out _ (M4.out.grow (Go.Joins.below_alloc1 _ _)).2.2.1).mono ?_
              rintro e u5 ⟨rfl, hb⟩
              have M5 : Hid (Own4 w u5 T (dropT T (fun l => l.fits a1 a2) 16) (dropT T (fun l => l.t == a1 && !l.g) 16) (dropT T (fun l => !true || !l.g) 16)) := (M4.out.grow (Go.Joins.below_alloc1 _ _)).grow hb
              have lu4_5 : u4.heap.size < u5.heap.size := Nat.lt_of_lt_of_le (by simp) hb.size
              clear hb M4
              go_wp2_with fail
              refine (FC.out _ (M5.out.grow (Go.Joins.below_alloc1 _ _)).2.2.2.1).mono ?_
              rintro e u6 ⟨rfl, hb⟩
              have M6 : Hid (Own4 w u6 T (dropT T (fun l => l.fits a1 a2) 16) (dropT T (fun l => l.t == a1 && !l.g) 16) (dropT T (fun l => !true || !l.g) 16)) := (M5.out.grow (Go.Joins.below_alloc1 _ _)).grow hb
              have lu4_6 : u4.heap.size < u6.heap.size := Nat.lt_of_lt_of_le (by rw [World.size_alloc]; omega) hb.size
              have qu5_7_6 : u6.cell? ⟨u5.heap.size, 7, none⟩ = some (.bool true) := (hb.cell (p := ⟨u5.heap.size, 7, none⟩) (by simp)).trans (by simp)
              have lu5_6 : u5.heap.size < u6.heap.size := Nat.lt_of_lt_of_le (by simp) hb.size
              clear lu4_5 
              clear hb M5
              go_wp2_with fail
              refine (FZ.out _ (M6.out.grow (Go.Joins.below_alloc1 _ _)).1).mono ?_
              rintro e u7 ⟨rfl, hb⟩
              have B7 : Hid (w.heap.size < u7.heap.size) := Nat.lt_of_lt_of_le (Nat.lt_of_lt_of_le M6.out.1.2.2 (by simp)) hb.size
              have M7 : Hid (Own4 w u7 T (dropT T (fun l => l.fits a1 a2) 16) (dropT T (fun l => l.t == a1 && !l.g) 16) (dropT T (fun l => !true || !l.g) 16)) := (M6.out.grow (Go.Joins.below_alloc1 _ _)).grow hb
              have lu4_7 : u4.heap.size < u7.heap.size := Nat.lt_of_lt_of_le (by rw [World.size_alloc]; omega) hb.size
              have qu5_7_7 : u7.cell? ⟨u5.heap.size, 7, none⟩ = some (.bool true) := (hb.cell (p := ⟨u5.heap.size, 7, none⟩) (Nat.lt_of_lt_of_le lu5_6 (by rw [World.size_alloc]; omega))).trans ((World.cell?_alloc_lt _ _ _ (by exact lu5_6)).trans qu5_7_6)
              have lu5_7 : u5.heap.size < u7.heap.size := Nat.lt_of_lt_of_le (by rw [World.size_alloc]; omega) hb.size
              have qu6_7_7 : u7.cell? ⟨u6.heap.size, 7, none⟩ = some (.bool true) := (hb.cell (p := ⟨u6.heap.size, 7, none⟩) (by simp)).trans (by simp)
              have lu6_7 : u6.heap.size < u7.heap.size := Nat.lt_of_lt_of_le (by simp) hb.size
              clear lu4_6 
              clear lu5_6 qu5_7_6
              clear hb M6
              go_wp2_with fail
              refine (FK.out _ (M7.out.grow (Go.Joins.below_alloc1 _ _)).2.1).mono ?_
              rintro e u8 ⟨rfl, hb⟩
              have M8 : Hid (Own4 w u8 T (dropT T (fun l => l.fits a1 a2) 16) (dropT T (fun l => l.t == a1 && !l.g) 16) (dropT T (fun l => !true || !l.g) 16)) := (M7.out.grow (Go.Joins.below_alloc1 _ _)).grow hb
              have B8 : Hid (w.heap.size < u8.heap.size) := M8.out.1.2.2
              have qu7_0_8 : u8.cell? ⟨u7.heap.size, 0, none⟩ = some (.bool true) := (hb.cell (p := ⟨u7.heap.size, 0, none⟩) (by simp)).trans (by simp)
              have qu7_1_8 : u8.cell? ⟨u7.heap.size, 1, none⟩ = some (.int .i64 zt) := (hb.cell (p := ⟨u7.heap.size, 1, none⟩) (by simp)).trans (by simp)
              have qu7_2_8 : u8.cell? ⟨u7.heap.size, 2, none⟩ = some (.int .i64 zp) := (hb.cell (p := ⟨u7.heap.size, 2, none⟩) (by simp)).trans (by simp)
              have qu7_3_8 : u8.cell? ⟨u7.heap.size, 3, none⟩ = some (.int .i64 zf) := (hb.cell (p := ⟨u7.heap.size, 3, none⟩) (by simp)).trans (by simp)
              have qu7_4_8 : u8.cell? ⟨u7.heap.size, 4, none⟩ = some (.bool zw) := (hb.cell (p := ⟨u7.heap.size, 4, none⟩) (by simp)).trans (by simp)
              have qu7_5_8 : u8.cell? ⟨u7.heap.size, 5, none⟩ = some (.bool zu) := (hb.cell (p := ⟨u7.heap.size, 5, none⟩) (by simp)).trans (by simp)
              have qu7_6_8 : u8.cell? ⟨u7.heap.size, 6, none⟩ = some (.bool zx) := (hb.cell (p := ⟨u7.heap.size, 6, none⟩) (by simp)).trans (by simp)
              have qu7_7_8 : u8.cell? ⟨u7.heap.size, 7, none⟩ = some (.bool true) := (hb.cell (p := ⟨u7.heap.size, 7, none⟩) (by simp)).trans (by simp)
              have qu7_8_8 : u8.cell? ⟨u7.heap.size, 8, none⟩ = some (.bool zd) := (hb.cell (p := ⟨u7.heap.size, 8, none⟩) (by simp)).trans (by simp)
              have lu7_8 : u7.heap.size < u8.heap.size := Nat.lt_of_lt_of_le (by simp) hb.size
              clear hb M7
              go_wp2_with fail
              refine (FF.out _ (M8.out.grow (Go.Joins.below_alloc1 _ _)).2.2.1).mono ?_
              rintro e u9 ⟨rfl, hb⟩
              have M9 : Hid (Own4 w u9 T (dropT T (fun l => l.fits a1 a2) 16) (dropT T (fun l => l.t == a1 && !l.g) 16) (dropT T (fun l => !true || !l.g) 16)) := (M8.out.grow (Go.Joins.below_alloc1 _ _)).grow hb
              have qu7_0_9 : u9.cell? ⟨u7.heap.size, 0, none⟩ = some (.bool true) := (hb.cell (p := ⟨u7.heap.size, 0, none⟩) (Nat.lt_of_lt_of_le lu7_8 (by rw [World.size_alloc]; omega))).trans ((World.cell?_alloc_lt _ _ _ (by exact lu7_8)).trans qu7_0_8)
              have qu7_1_9 : u9.cell? ⟨u7.heap.size, 1, none⟩ = some (.int .i64 zt) := (hb.cell (p := ⟨u7.heap.size, 1, none⟩) (Nat.lt_of_lt_of_le lu7_8 (by rw [World.size_alloc]; omega))).trans ((World.cell?_alloc_lt _ _ _ (by exact lu7_8)).trans qu7_1_8)
              have qu7_2_9 : u9.cell? ⟨u7.heap.size, 2, none⟩ = some (.int .i64 zp) := (hb.cell (p := ⟨u7.heap.size, 2, none⟩) (Nat.lt_of_lt_of_le lu7_8 (by rw [World.size_alloc]; omega))).trans ((World.cell?_alloc_lt _ _ _ (by exact lu7_8)).trans qu7_2_8)
              have qu7_3_9 : u9.cell? ⟨u7.heap.size, 3, none⟩ = some (.int .i64 zf) := (hb.cell (p := ⟨u7.heap.size, 3, none⟩) (Nat.lt_of_lt_of_le lu7_8 (by rw [World.size_alloc]; omega))).trans ((World.cell?_alloc_lt _ _ _ (by exact lu7_8)).trans qu7_3_8)
              have qu7_4_9 : u9.cell? ⟨u7.heap.size, 4, none⟩ = some (.bool zw) := (hb.cell (p := ⟨u7.heap.size, 4, none⟩) (Nat.lt_of_lt_of_le lu7_8 (by rw [World.size_alloc]; omega))).trans ((World.cell?_alloc_lt _ _ _ (by exact lu7_8)).trans qu7_4_8)
              have qu7_5_9 : u9.cell? ⟨u7.heap.size, 5, none⟩ = some (.bool zu) := (hb.cell (p := ⟨u7.heap.size, 5, none⟩) (Nat.lt_of_lt_of_le lu7_8 (by rw [World.size_alloc]; omega))).trans ((World.cell?_alloc_lt _ _ _ (by exact lu7_8)).trans qu7_5_8)
              have qu7_6_9 : u9.cell? ⟨u7.heap.size, 6, none⟩ = some (.bool zx) := (hb.cell (p := ⟨u7.heap.size, 6, none⟩) (Nat.lt_of_lt_of_le lu7_8 (by rw [World.size_alloc]; omega))).trans ((World.cell?_alloc_lt _ _ _ (by exact lu7_8)).trans qu7_6_8)
              have qu7_7_9 : u9.cell? ⟨u7.heap.size, 7, none⟩ = some (.bool true) := (hb.cell (p := ⟨u7.heap.size, 7, none⟩) (Nat.lt_of_lt_of_le lu7_8 (by rw [World.size_alloc]; omega))).trans ((World.cell?_alloc_lt _ _ _ (by exact lu7_8)).trans qu7_7_8)
              have qu7_8_9 : u9.cell? ⟨u7.heap.size, 8, none⟩ = some (.bool zd) := (hb.cell (p := ⟨u7.heap.size, 8, none⟩) (Nat.lt_of_lt_of_le lu7_8 (by rw [World.size_alloc]; omega))).trans ((World.cell?_alloc_lt _ _ _ (by exact lu7_8)).trans qu7_8_8)
              have lu7_9 : u7.heap.size < u9.heap.size := Nat.lt_of_lt_of_le (by rw [World.size_alloc]; omega) hb.size
              have qu8_0_9 : u9.cell? ⟨u8.heap.size, 0, none⟩ = some (.bool true) := (hb.cell (p := ⟨u8.heap.size, 0, none⟩) (by simp)).trans (by simp)
              have qu8_1_9 : u9.cell? ⟨u8.heap.size, 1, none⟩ = some (.int .i64 zt) := (hb.cell (p := ⟨u8.heap.size, 1, none⟩) (by simp)).trans (by simp)
              have qu8_2_9 : u9.cell? ⟨u8.heap.size, 2, none⟩ = some (.int .i64 zp) := (hb.cell (p := ⟨u8.heap.size, 2, none⟩) (by simp)).trans (by simp)
              have qu8_3_9 : u9.cell? ⟨u8.heap.size, 3, none⟩ = some (.int .i64 zf) := (hb.cell (p := ⟨u8.heap.size, 3, none⟩) (by simp)).trans (by simp)
              have qu8_4_9 : u9.cell? ⟨u8.heap.size, 4, none⟩ = some (.bool zw) := (hb.cell (p := ⟨u8.heap.size, 4, none⟩) (by simp)).trans (by simp)
              have qu8_5_9 : u9.cell? ⟨u8.heap.size, 5, none⟩ = some (.bool zu) := (hb.cell (p := ⟨u8.heap.size, 5, none⟩) (by simp)).trans (by simp)
              have qu8_6_9 : u9.cell? ⟨u8.heap.size, 6, none⟩ = some (.bool zx) := (hb.cell (p := ⟨u8.heap.size, 6, none⟩) (by simp)).trans (by simp)
              have qu8_7_9 : u9.cell? ⟨u8.heap.size, 7, none⟩ = some (.bool true) := (hb.cell (p := ⟨u8.heap.size, 7, none⟩) (by simp)).trans (by simp)
              have qu8_8_9 : u9.cell? ⟨u8.heap.size, 8, none⟩ = some (.bool zd) := (hb.cell (p := ⟨u8.heap.size, 8, none⟩) (by simp)).trans (by simp)
              have lu8_9 : u8.heap.size < u9.heap.size := Nat.lt_of_lt_of_le (by simp) hb.size
              clear lu7_8 qu7_0_8 qu7_1_8 qu7_2_8 qu7_3_8 qu7_4_8 qu7_5_8 qu7_6_8 qu7_7_8 qu7_8_8
              clear hb M8
              have lw9 : w.heap.size < u7.heap.size := by have := B7.out; omega
              have lw8 : w.heap.size < u8.heap.size := B8.out
              go_wp2_with fail
              refine (AX.out _ (M9.out.grow (Go.Joins.below_alloc1 _ _)).1).mono ?_
              rintro e u10 ⟨rfl, h1, h2⟩
              have M10 : Hid (Own4 w u10 (dropT T (fun l => !false || !l.g) 16) (dropT T (fun l => l.fits a1 a2) 16) (dropT T (fun l => l.t == a1 && !l.g) 16) (dropT T (fun l => !true || !l.g) 16)) := (M9.out.grow (Go.Joins.below_alloc1 _ _)).n0 h1 h2
              have qu7_0_10 : u10.cell? ⟨u7.heap.size, 0, none⟩ = some (.bool true) := cell_grown h2 (by rw [World.size_alloc]; omega) (by omega) ((World.cell?_alloc_lt _ _ _ (by exact lu7_9)).trans qu7_0_9)
              have qu7_1_10 : u10.cell? ⟨u7.heap.size, 1, none⟩ = some (.int .i64 zt) := cell_grown h2 (by rw [World.size_alloc]; omega) (by omega) ((World.cell?_alloc_lt _ _ _ (by exact lu7_9)).trans qu7_1_9)
              have qu7_2_10 : u10.cell? ⟨u7.heap.size, 2, none⟩ = some (.int .i64 zp) := cell_grown h2 (by rw [World.size_alloc]; omega) (by omega) ((World.cell?_alloc_lt _ _ _ (by exact lu7_9)).trans qu7_2_9)
              have qu7_3_10 : u10.cell? ⟨u7.heap.size, 3, none⟩ = some (.int .i64 zf) := cell_grown h2 (by rw [World.size_alloc]; omega) (by omega) ((World.cell?_alloc_lt _ _ _ (by exact lu7_9)).trans qu7_3_9)
              have qu7_4_10 : u10.cell? ⟨u7.heap.size, 4, none⟩ = some (.bool zw) := cell_grown h2 (by rw [World.size_alloc]; omega) (by omega) ((World.cell?_alloc_lt _ _ _ (by exact lu7_9)).trans qu7_4_9)
              have qu7_5_10 : u10.cell? ⟨u7.heap.size, 5, none⟩ = some (.bool zu) := cell_grown h2 (by rw [World.size_alloc]; omega) (by omega) ((World.cell?_alloc_lt _ _ _ (by exact lu7_9)).trans qu7_5_9)
              have qu7_6_10 : u10.cell? ⟨u7.heap.size, 6, none⟩ = some (.bool zx) := cell_grown h2 (by rw [World.size_alloc]; omega) (by omega) ((World.cell?_alloc_lt _ _ _ (by exact lu7_9)).trans qu7_6_9)
              have qu7_7_10 : u10.cell? ⟨u7.heap.size, 7, none⟩ = some (.bool true) := cell_grown h2 (by rw [World.size_alloc]; omega) (by omega) ((World.cell?_alloc_lt _ _ _ (by exact lu7_9)).trans qu7_7_9)
              have qu7_8_10 : u10.cell? ⟨u7.heap.size, 8, none⟩ = some (.bool zd) := cell_grown h2 (by rw [World.size_alloc]; omega) (by omega) ((World.cell?_alloc_lt _ _ _ (by exact lu7_9)).trans qu7_8_9)
              have lu7_10 : u7.heap.size < u10.heap.size := Nat.lt_of_lt_of_le (by rw [World.size_alloc]; omega) h2.size
              have qu8_0_10 : u10.cell? ⟨u8.heap.size, 0, none⟩ = some (.bool true) := cell_grown h2 (by rw [World.size_alloc]; omega) (by omega) ((World.cell?_alloc_lt _ _ _ (by exact lu8_9)).trans qu8_0_9)
              have qu8_1_10 : u10.cell? ⟨u8.heap.size, 1, none⟩ = some (.int .i64 zt) := cell_grown h2 (by rw [World.size_alloc]; omega) (by omega) ((World.cell?_alloc_lt _ _ _ (by exact lu8_9)).trans qu8_1_9)
              have qu8_2_10 : u10.cell? ⟨u8.heap.size, 2, none⟩ = some (.int .i64 zp) := cell_grown h2 (by rw [World.size_alloc]; omega) (by omega) ((World.cell?_alloc_lt _ _ _ (by exact lu8_9)).trans qu8_2_9)
              have qu8_3_10 : u10.cell? ⟨u8.heap.size, 3, none⟩ = some (.int .i64 zf) := cell_grown h2 (by rw [World.size_alloc]; omega) (by omega) ((World.cell?_alloc_lt _ _ _ (by exact lu8_9)).trans qu8_3_9)
              have qu8_4_10 : u10.cell? ⟨u8.heap.size, 4, none⟩ = some (.bool zw) := cell_grown h2 (by rw [World.size_alloc]; omega) (by omega) ((World.cell?_alloc_lt _ _ _ (by exact lu8_9)).trans qu8_4_9)
              have qu8_5_10 : u10.cell? ⟨u8.heap.size, 5, none⟩ = some (.bool zu) := cell_grown h2 (by rw [World.size_alloc]; omega) (by omega) ((World.cell?_alloc_lt _ _ _ (by exact lu8_9)).trans qu8_5_9)
              have qu8_6_10 : u10.cell? ⟨u8.heap.size, 6, none⟩ = some (.bool zx) := cell_grown h2 (by rw [World.size_alloc]; omega) (by omega) ((World.cell?_alloc_lt _ _ _ (by exact lu8_9)).trans qu8_6_9)
              have qu8_7_10 : u10.cell? ⟨u8.heap.size, 7, none⟩ = some (.bool true) := cell_grown h2 (by rw [World.size_alloc]; omega) (by omega) ((World.cell?_alloc_lt _ _ _ (by exact lu8_9)).trans qu8_7_9)
              have qu8_8_10 : u10.cell? ⟨u8.heap.size, 8, none⟩ = some (.bool zd) := cell_grown h2 (by rw [World.size_alloc]; omega) (by omega) ((World.cell?_alloc_lt _ _ _ (by exact lu8_9)).trans qu8_8_9)
              have lu8_10 : u8.heap.size < u10.heap.size := Nat.lt_of_lt_of_le (by rw [World.size_alloc]; omega) h2.size
              clear lu7_9 qu7_0_9 qu7_1_9 qu7_2_9 qu7_3_9 qu7_4_9 qu7_5_9 qu7_6_9 qu7_7_9 qu7_8_9
              clear lu8_9 qu8_0_9 qu8_1_9 qu8_2_9 qu8_3_9 qu8_4_9 qu8_5_9 qu8_6_9 qu8_7_9 qu8_8_9
              clear h1 h2 M9
              go_wp2_with fail
              refine (AW.out _).mono ?_
              rintro e u11 ⟨rfl, hb⟩
              have M11 : Hid (Own4 w u11 (dropT T (fun l => !false || !l.g) 16) (dropT T (fun l => l.fits a1 a2) 16) (dropT T (fun l => l.t == a1 && !l.g) 16) (dropT T (fun l => !true || !l.g) 16)) := M10.out.grow hb
              have qu7_0_11 : u11.cell? ⟨u7.heap.size, 0, none⟩ = some (.bool true) := (hb.cell (p := ⟨u7.heap.size, 0, none⟩) lu7_10).trans qu7_0_10
              have qu7_1_11 : u11.cell? ⟨u7.heap.size, 1, none⟩ = some (.int .i64 zt) := (hb.cell (p := ⟨u7.heap.size, 1, none⟩) lu7_10).trans qu7_1_10
              have qu7_2_11 : u11.cell? ⟨u7.heap.size, 2, none⟩ = some (.int .i64 zp) := (hb.cell (p := ⟨u7.heap.size, 2, none⟩) lu7_10).trans qu7_2_10
              have qu7_3_11 : u11.cell? ⟨u7.heap.size, 3, none⟩ = some (.int .i64 zf) := (hb.cell (p := ⟨u7.heap.size, 3, none⟩) lu7_10).trans qu7_3_10
              have qu7_4_11 : u11.cell? ⟨u7.heap.size, 4, none⟩ = some (.bool zw) := (hb.cell (p := ⟨u7.heap.size, 4, none⟩) lu7_10).trans qu7_4_10
              have qu7_5_11 : u11.cell? ⟨u7.heap.size, 5, none⟩ = some (.bool zu) := (hb.cell (p := ⟨u7.heap.size, 5, none⟩) lu7_10).trans qu7_5_10
              have qu7_6_11 : u11.cell? ⟨u7.heap.size, 6, none⟩ = some (.bool zx) := (hb.cell (p := ⟨u7.heap.size, 6, none⟩) lu7_10).trans qu7_6_10
              have qu7_7_11 : u11.cell? ⟨u7.heap.size, 7, none⟩ = some (.bool true) := (hb.cell (p := ⟨u7.heap.size, 7, none⟩) lu7_10).trans qu7_7_10
              have qu7_8_11 : u11.cell? ⟨u7.heap.size, 8, none⟩ = some (.bool zd) := (hb.cell (p := ⟨u7.heap.size, 8, none⟩) lu7_10).trans qu7_8_10
              have lu7_11 : u7.heap.size < u11.heap.size := Nat.lt_of_lt_of_le lu7_10 hb.size
              have qu8_0_11 : u11.cell? ⟨u8.heap.size, 0, none⟩ = some (.bool true) := (hb.cell (p := ⟨u8.heap.size, 0, none⟩) lu8_10).trans qu8_0_10
              have qu8_1_11 : u11.cell? ⟨u8.heap.size, 1, none⟩ = some (.int .i64 zt) := (hb.cell (p := ⟨u8.heap.size, 1, none⟩) lu8_10).trans qu8_1_10
              have qu8_2_11 : u11.cell? ⟨u8.heap.size, 2, none⟩ = some (.int .i64 zp) := (hb.cell (p := ⟨u8.heap.size, 2, none⟩) lu8_10).trans qu8_2_10
              have qu8_3_11 : u11.cell? ⟨u8.heap.size, 3, none⟩ = some (.int .i64 zf) := (hb.cell (p := ⟨u8.heap.size, 3, none⟩) lu8_10).trans qu8_3_10
              have qu8_4_11 : u11.cell? ⟨u8.heap.size, 4, none⟩ = some (.bool zw) := (hb.cell (p := ⟨u8.heap.size, 4, none⟩) lu8_10).trans qu8_4_10
              have qu8_5_11 : u11.cell? ⟨u8.heap.size, 5, none⟩ = some (.bool zu) := (hb.cell (p := ⟨u8.heap.size, 5, none⟩) lu8_10).trans qu8_5_10
              have qu8_6_11 : u11.cell? ⟨u8.heap.size, 6, none⟩ = some (.bool zx) := (hb.cell (p := ⟨u8.heap.size, 6, none⟩) lu8_10).trans qu8_6_10
              have qu8_7_11 : u11.cell? ⟨u8.heap.size, 7, none⟩ = some (.bool true) := (hb.cell (p := ⟨u8.heap.size, 7, none⟩) lu8_10).trans qu8_7_10
              have qu8_8_11 : u11.cell? ⟨u8.heap.size, 8, none⟩ = some (.bool zd) := (hb.cell (p := ⟨u8.heap.size, 8, none⟩) lu8_10).trans qu8_8_10
              have lu8_11 : u8.heap.size < u11.heap.size := Nat.lt_of_lt_of_le lu8_10 hb.size
              clear lu7_10 qu7_0_10 qu7_1_10 qu7_2_10 qu7_3_10 qu7_4_10 qu7_5_10 qu7_6_10 qu7_7_10 qu7_8_10
              clear lu8_10 qu8_0_10 qu8_1_10 qu8_2_10 qu8_3_10 qu8_4_10 qu8_5_10 qu8_6_10 qu8_7_10 qu8_8_10
              clear hb M10
              go_wp2_with fail
              refine (LN.out _ M11.out.1).mono ?_
              rintro e u12 ⟨⟨pl, cl, rfl⟩, hb⟩
              have M12 : Hid (Own4 w u12 (dropT T (fun l => !false || !l.g) 16) (dropT T (fun l => l.fits a1 a2) 16) (dropT T (fun l => l.t == a1 && !l.g) 16) (dropT T (fun l => !true || !l.g) 16)) := M11.out.grow hb
              clear hb
              go_wp2_with fail
              go_ret
              exact ⟨rfl, M12.out.2.2.2.2⟩

theorem own : ownKnob Try.prog.godebug = none := by kernel_rfl
theorem laidOut : laidOutB Try.prog = true := by kernel_rfl
set_option maxRecDepth 100000 in
theorem lifted (os : Os) (started : os.Started) (H : Type) (enc : TypeId × Value → H) :
    ReturnsInHanded {} Try.checked os 5 .any (Rows.tlbGoneSpec.pre6 enc Try.prog Try.f5 Rows.tlbGoneRow.domain false) (Rows.tlbGoneSpec.post enc Try.prog Try.f5 false true false false) := by
  refine returnsInHanded_of_change (C := Try.checked) own started (by kernel_rfl) Try.func5
    (ChangeSpec.witness6 (enc := enc) (C := Try.checked) false ⟨#[], #[.slice none 0 0, .int .i64 0, .int .i64 0, .int .i64 0], []⟩ 8 (by kernel_rfl) (by kernel_rfl) (by kernel_rfl) (by kernel_rfl)) ?_
  intro W base args ds gs before hval0 hW hcnd _
  have hval : ∀ (j : Nat) t v, Try.f5.params[j]? = some t → args[j]? = some v → Value.okWide Try.prog W .any base t v := hval0
  have hW' := hW
  obtain ⟨p, q, hA0, hV, hbef, hfz, hnd⟩ := hW
  have hA : DataW.TrodAll enc Try.prog W 0 (fun _ => true) true Try.f5.params.toList args.toList ds p := hA0
  have hAk := hA
  have hlt : ∀ x ∈ p, x.block < W.heap.size := fun x hx => hW'.lt x (by rw [hbef]; exact List.mem_append_left _ hx)
  rw [Try.params5] at hA hval
  obtain ⟨v0, vs0, d0, ds0, p0, q0, hargs, rfl, hp0, h0, r0⟩ := trodAll_cons hA
  obtain ⟨v1, vs1, d1, ds1, p1, q1, rfl, rfl, hp1, h1, r1⟩ := trodAll_cons r0
  obtain ⟨v2, vs2, d2, ds2, p2, q2, rfl, rfl, hp2, h2, r2⟩ := trodAll_cons r1
  obtain ⟨v3, vs3, d3, ds3, p3, q3, rfl, rfl, hp3, h3, r3⟩ := trodAll_cons r2
  obtain ⟨rfl, rfl, hpz⟩ := trodAll_nil r3
  obtain rfl : args = #[v0, v1, v2, v3] := by cases args; simp_all
  obtain ⟨rfl, rfl⟩ := trodVars_none hV
  obtain ⟨p0, n0, c0, K0, A0, C0, L0, rfl, m0, H0⟩ := open_acts (hval 0 22 v0 rfl rfl) h0
  obtain ⟨a1, rfl, _, _, w1⟩ := open_int Try.underlying3 (hval 1 3 v1 rfl rfl) h1
  obtain ⟨a2, rfl, _, _, w2⟩ := open_int Try.underlying3 (hval 2 3 v2 rfl rfl) h2
  obtain ⟨a3, rfl, _, _, w3⟩ := open_int Try.underlying3 (hval 3 3 v3 rfl rfl) h3
  clear hA0 hval0
  refine (walk p0 n0 c0 K0 A0 C0 L0 m0 a1 w1 a2 w2 a3 w3 W H0).mono fun e W' ⟨he, hg⟩ => ?_
  subst he
  exact ⟨_, rfl, ⟨_, _, _, [], p, [], hW', (trodAll_cons_mk (shut_bool Try.underlying4 _) trodAll_mk0), args_stay laidOut hg (by kernel_rfl) hAk hlt, rfl, hg.frame _, fun h => by cases h⟩⟩

theorem over : Rows.tlbGoneRow.holds Try.pinned (OpenSpec.ofChange Rows.tlbGoneSpec) :=
  OpenClaim.holds_of_wide 5 Try.f5 rfl rfl rfl rfl rfl rfl rfl ⟨rfl, rfl, rfl, rfl, rfl⟩ rfl rfl rfl rfl rfl (by kernel_rfl) Try.func5 (by kernel_rfl)
    (of_decide_eq_true (by kernel_rfl)) (by unfold Func.isWrapper; first | (rw [if_pos (by decide +kernel)]; kernel_rfl) | (rw [if_neg (by decide +kernel)]; exact ⟨rfl, rfl⟩))
    (fun os started H enc _ => lifted os started H enc)

theorem proved : Rows.TlbGoneSaid :=
  over
#print axioms proved
end Go.Proofs.Ytbknofopjkdbnaa.tlbGone
