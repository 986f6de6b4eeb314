/- The program's buddy beside the document's. -/
import Derived.Test.YtpjejjonkdhelaaCG
import Derived.Test.YtpjejjonkdhelaaCH
namespace Go.Proofs.Ytpjejjonkdhelaa
open Go.ChangeShapes Go.WideShapes Go.ChangeAt Go.RowKit Go.Maps
set_option linter.unusedSimpArgs false
set_option linter.unusedVariables false
set_option maxRecDepth 8000

/-- given blocks, listed in a block of Z -/
def LZ (w : World) (Z : Nat → Prop) (lo : Nat) (v : Value) (L : List (Int × Int)) : Prop := ∃ p c, v = .slice p L.length c ∧ ∀ i (hi : i < L.length), ∃ g, p = some ⟨g, 0, none⟩ ∧ Z g ∧ lo ≤ g ∧ g < w.heap.size ∧ w.cell? ⟨g, i * 2, none⟩ = some (.int .i64 L[i].1) ∧ w.cell? ⟨g, i * 2 + 1, none⟩ = some (.int .i64 L[i].2)
theorem LZ.lb {w : World} {Z : Nat → Prop} {lo : Nat} {v : Value} {L : List (Int × Int)} (H : LZ w Z lo v L) : LB w lo v L := by
  obtain ⟨p, c, hv, h⟩ := H
  exact ⟨p, c, hv, fun i hi => by obtain ⟨g, e, _, r⟩ := h i hi; exact ⟨g, e, r⟩⟩
theorem LZ.mono {w : World} {Z Z' : Nat → Prop} {lo : Nat} {v : Value} {L : List (Int × Int)} (H : LZ w Z lo v L) (hz : ∀ j, Z j → Z' j) : LZ w Z' lo v L := by
  obtain ⟨p, c, hv, h⟩ := H
  exact ⟨p, c, hv, fun i hi => by obtain ⟨g, e, z, r⟩ := h i hi; exact ⟨g, e, hz g z, r⟩⟩
theorem LZ.kf {w W : World} {Z S : Nat → Prop} {lo : Nat} {v : Value} {L : List (Int × Int)} (H : LZ w Z lo v L) (k : Kf S w W) (hS : ∀ j, Z j → lo ≤ j → ¬ S j) : LZ W Z lo v L := by
  obtain ⟨p, c, hv, h⟩ := H
  refine ⟨p, c, hv, fun i hi => ?_⟩
  obtain ⟨g, e, z, l0, lg, h1, h2⟩ := h i hi
  have n := hS g z l0
  exact ⟨g, e, z, l0, Nat.lt_of_lt_of_le lg k.size, by rw [World.cell?_of_block (w := w) (a := ⟨g, i * 2, none⟩) (k.block g lg n)]; exact h1, by rw [World.cell?_of_block (w := w) (a := ⟨g, i * 2 + 1, none⟩) (k.block g lg n)]; exact h2⟩
theorem lz_of {w : World} {Z : Nat → Prop} {lo lo' : Nat} {v : Value} {L : List (Int × Int)} (H : LB w lo' v L) (h : lo ≤ lo') (hz : ∀ j, lo' ≤ j → j < w.heap.size → Z j) : LZ w Z lo v L := by
  obtain ⟨p, c, hv, r⟩ := H
  exact ⟨p, c, hv, fun i hi => by obtain ⟨g, e, l0, lg, r⟩ := r i hi; exact ⟨g, e, hz g l0 lg, Nat.le_trans h l0, lg, r⟩⟩
/-- the document's buddy: its state lies boxed at sx, its free frames at fb -/
structure Rf (W : World) (Z : Nat → Prop) (fb nn sx : Nat) (F : Nat → Prop) (G : Int → Option Int) (pg : Option Addr) (ll cg : Nat) (L : List (Int × Int)) : Prop where
  sn : Sn W fb nn F
  bx : Blk W sx [.slice (some ⟨fb, 0, none⟩) nn nn, .slice pg ll cg] 35
  lz : LZ W Z (sx + 1) (.slice pg ll cg) L
  lg : LG L G
  len : ll = L.length
  lt : fb < sx
theorem Rf.kf {W W' : World} {Z : Nat → Prop} {fb nn sx : Nat} {F : Nat → Prop} {G : Int → Option Int} {pg : Option Addr} {ll cg : Nat} {L : List (Int × Int)} (H : Rf W Z fb nn sx F G pg ll cg L) (k : Kf (fun j => ¬ Z j) W W') (zf : Z fb) (zx : Z sx) : Rf W' Z fb nn sx F G pg ll cg L :=
  ⟨H.sn.block (k.block fb H.sn.lt (fun n => n zf)), H.bx.kf k (fun n => n zx), H.lz.kf k (fun j z _ n => n z), H.lg, H.len, H.lt⟩
theorem Rf.mono {W : World} {Z Z' : Nat → Prop} {fb nn sx : Nat} {F : Nat → Prop} {G : Int → Option Int} {pg : Option Addr} {ll cg : Nat} {L : List (Int × Int)} (H : Rf W Z fb nn sx F G pg ll cg L) (hz : ∀ j, Z j → Z' j) : Rf W Z' fb nn sx F G pg ll cg L :=
  ⟨H.sn, H.bx, H.lz.mono hz, H.lg, H.len, H.lt⟩
/-- the program's buddy -/
structure Pg (w1 W : World) (Z : Nat → Prop) (b N : Nat) (F : Nat → Prop) (G : Int → Option Int) (All : Nat → Prop) : Prop where
  bu : Bu Z W b N F G
  st : St All F G
  zl : ∀ j, j < w1.heap.size → Z j
  bl : Below w1.heap.size w1 W
theorem Pg.next {w1 W W' : World} {Z S : Nat → Prop} {b N : Nat} {F : Nat → Prop} {G : Int → Option Int} {All : Nat → Prop} (H : Pg w1 W Z b N F G All) (k : Kf S W W') (hS : ∀ j, S j → Z j ∧ w1.heap.size ≤ j) : Pg w1 W' (fun j => Z j ∨ (W.heap.size ≤ j ∧ j < W'.heap.size)) b N F G All :=
  ⟨H.bu.next k.size (fun j hj nz => k.block j hj (fun s => nz (hS j s).1)), H.st, fun j hj => Or.inl (H.zl j hj), H.bl.trans ⟨k.os, k.tape, k.output, k.size, fun j hj => k.block j (Nat.lt_of_lt_of_le hj H.bl.size) (fun s => by have := (hS j s).2; omega)⟩⟩
theorem Pg.prog {w1 W W' : World} {Z : Nat → Prop} {b N N' : Nat} {F F' : Nat → Prop} {G G' : Int → Option Int} {All : Nat → Prop} (H : Pg w1 W Z b N F G All) (hB : Bu Z W' b N' F' G') (hS : St All F' G') (k : Kf (fun j => ¬ Z j) W W') : Pg w1 W' Z b N' F' G' All :=
  ⟨hB, hS, H.zl, H.bl.trans ⟨k.os, k.tape, k.output, k.size, fun j hj => k.block j (Nat.lt_of_lt_of_le hj H.bl.size) (fun n => n (H.zl j hj))⟩⟩
theorem Pg.mono {w1 W : World} {Z : Nat → Prop} {b N N' : Nat} {F : Nat → Prop} {G : Int → Option Int} {All : Nat → Prop} (H : Pg w1 W Z b N F G All) (h : N ≤ N') : Pg w1 W Z b N' F G All := ⟨H.bu.mono h, H.st, H.zl, H.bl⟩
/-- what the document's Take or Give answers: a state of its own -/
def Ans (U w' : World) (Z : Nat → Prop) (fb nn sx : Nat) (F' : Nat → Prop) (G' : Int → Option Int) (ll : Nat) (pg' : Option Addr) (ll' cg' : Nat) (L' : List (Int × Int)) : Prop :=
  Sn w' fb nn F' ∧ LZ w' (fun j => Z j ∨ (U.heap.size ≤ j ∧ j < w'.heap.size)) (sx + 1) (.slice pg' ll' cg') L' ∧ LG L' G' ∧ ll' = L'.length ∧ ll' ≤ ll + 1 ∧ Kf (fun j => j = fb) U w'
/-- both Takes: the same answers -/
theorem both_take {w1 W : World} {Z : Nat → Prop} {b N fb nn sx en : Nat} {F All : Nat → Prop} {G : Int → Option Int} {pg : Option Addr} {ll cg : Nat} {L : List (Int × Int)} (P : Pg w1 W Z b N F G All) (hn : nn = en * 1024) (n9 : nn ≤ 6144) (hA : ∀ i, All i → i < nn) (l9 : ll ≤ 1000) (hN : N + 20 < 1048576) (x : Int) :
    Calls Try.prog 15 #[.pointer (some ⟨b, 0, none⟩), .int .i64 x] W fun e u => ∃ (a c : Int) (F' : Nat → Prop) (G' : Int → Option Int), e = .returned (.tuple #[.int .i64 a, .int .i64 c]) ∧ Pg w1 u Z b (N + 20) F' G' All ∧ Kf (fun j => ¬ Z j) W u ∧
      ∀ U, Z fb → Rf U Z fb nn sx F G pg ll cg L → Calls Try.prog 16 #[.agg #[.slice (some ⟨fb, 0, none⟩) nn nn, .slice pg ll cg], .int .i64 x] U fun e w' => ∃ (pg' : Option Addr) (ll' cg' : Nat) (L' : List (Int × Int)), e = .returned (.tuple #[.agg #[.slice (some ⟨fb, 0, none⟩) nn nn, .slice pg' ll' cg'], .int .i64 a, .int .i64 c]) ∧ Ans U w' Z fb nn sx F' G' ll pg' ll' cg' L' := by
  have old : ∀ U w', Z fb → Rf U Z fb nn sx F G pg ll cg L → Below U.heap.size U w' → Ans U w' Z fb nn sx F G ll pg ll cg L := fun U w' zf R hb =>
    ⟨R.sn.block (hb.block fb R.sn.lt), (R.lz.kf (Kf.below (S := fun _ => False) hb) (fun _ _ _ h => h)).mono (fun j z => Or.inl z), R.lg, R.len, Nat.le_succ _, Kf.below hb⟩
  by_cases cx : 0 ≤ x ∧ x ≤ 10
  rotate_left
  · refine (take_no b x cx W).mono ?_
    rintro e u ⟨he, hw⟩
    subst hw
    refine ⟨0, 1, F, G, he, P.mono (by omega), Kf.refl _ _, fun U zf R => ?_⟩
    refine (rtake_no fb nn nn pg ll cg x cx U).mono ?_
    rintro e w' ⟨he2, hb⟩
    exact ⟨pg, ll, cg, L, he2, old U w' zf R hb⟩
  obtain ⟨o, rfl⟩ : ∃ o : Nat, x = (o : Int) := ⟨x.toNat, by omega⟩
  have ho : o ≤ 10 := by omega
  have hF : ∀ i, F i → i < nn := fun i hi => hA i (P.st.sub i hi)
  refine (P.bu.take o ho hN).mono ?_
  rintro e u (⟨he, hw, no⟩ | ⟨p, f, q, d, he, T, hB2, kf⟩)
  · subst hw
    refine ⟨0, 7, F, G, he, P.mono (by omega), Kf.refl _ _, fun U zf R => ?_⟩
    refine (rtake_any fb nn nn (sx + 1) en pg ll cg o ho L R.len (by omega) F hF hn n9 U R.sn R.lz.lb (Nat.lt_succ_of_lt R.lt)).mono ?_
    rintro e w' (⟨he2, _, hb⟩ | ⟨p, f, q, d, v', _, T, _⟩)
    · exact ⟨pg, ll, cg, L, he2, old U w' zf R hb⟩
    · exact absurd T.cn (no f q (by have := T.sum; omega) T.top)
  · refine ⟨_, 0, _, _, he, P.prog hB2 (P.st.take ho T) kf, kf, fun U zf R => ?_⟩
    refine (rtake_any fb nn nn (sx + 1) en pg ll cg o ho L R.len (by omega) F hF hn n9 U R.sn R.lz.lb (Nat.lt_succ_of_lt R.lt)).mono ?_
    rintro e w' (⟨_, no, _⟩ | ⟨p', f', q', d', v', he2, T', hs, hl, k2⟩)
    · exact absurd T.cn (no f q (by have := T.sum; omega) T.top)
    · have ep := took_eq T T'
      subst ep
      obtain ⟨pg', cg', hv', r⟩ := hl
      subst hv'
      refine ⟨pg', _, cg', _, he2, hs, ?_, R.lg.ins (P.st.new T), rfl, by rw [insP_len, ← R.len]; exact Nat.le_refl _, k2⟩
      exact lz_of (lo' := U.heap.size) ⟨pg', cg', rfl, r⟩ (Nat.succ_le_of_lt (blk_lt R.bx)) (fun j h1 h2 => Or.inr ⟨h1, h2⟩)
end Go.Proofs.Ytpjejjonkdhelaa
