/- For any number of tags and any calls: in one generation a tag is never given to two spaces, nor two tags to one space without a drop; behind any 80 calls; no condition. -/
import Derived.Test.YtbdakoijhpobdaaRows
import Derived.ProofKit
import Derived.OpenShut
import Derived.Carry
import Derived.Test.YtbdakoijhpobdaaK3
namespace Go.Proofs.Ytbdakoijhpobdaa.pcidOnce
open Go.ChangeShapes Go.WideShapes Go.ChangeAt Go.RowKit Go.Maps
set_option linter.unusedSimpArgs false
set_option linter.unusedVariables false
/-- what the law's own map says of this generation -/
structure Inv (S : Tg) (f : Int → Option Int) : Prop where
  low : ∀ t s, f t = some s → t < S.next
  has : ∀ s t, S.T s = some t → f t = some s
theorem inv_fresh (m : Int) : Inv (freshS m) noneF := ⟨fun t s e => (by cases e), fun t s e => (by cases e)⟩
theorem inv_drop {S : Tg} {f : Int → Option Int} (h : Inv S f) (s : Int) : Inv (dropS S s) f := by
  unfold dropS
  cases e : S.T s with
  | none => exact h
  | some t =>
    refine ⟨h.low, fun j v x => ?_⟩
    by_cases d : j = s
    · subst d; simp only [set_same] at x; cases x
    · simp only [set_other _ _ _ _ d] at x; exact h.has j v x
theorem inv_get {S : Tg} {f : Int → Option Int} (g : Good S) (h : Inv S f) (s : Int) : (getB S s = false → (f (getV S s) = none ∨ f (getV S s) = some s) ∧ Inv (getS S s) (setF f (getV S s) (some s))) ∧ (getB S s = true → Inv (getS S s) (setF noneF (getV S s) (some s))) := by
  rcases get_cases S s with ⟨t, q, e1, e2, e3⟩ | ⟨q, c, e1, e2, e3⟩ | ⟨q, c, e1, e2, e3⟩
  · refine ⟨fun _ => ?_, fun x => (by rw [e2] at x; cases x)⟩
    rw [e1, e3]
    have hf := h.has s t q
    have e : setF f t (some s) = f := by
      funext j
      by_cases d : j = t
      · subst d; rw [set_same, hf]
      · rw [set_other _ _ _ _ d]
    rw [e]
    exact ⟨Or.inr hf, h⟩
  · refine ⟨fun x => (by rw [e2] at x; cases x), fun _ => ?_⟩
    rw [e1, e3]
    refine ⟨fun t j x => ?_, fun j t x => ?_⟩
    · by_cases d : t = 1
      · subst d; show (1 : Int) < 2; omega
      · rw [set_other _ _ _ _ d] at x; cases x
    · by_cases d : j = s
      · subst d; simp only [set_same] at x; cases x; exact set_same _ _ _
      · simp only [set_other _ _ _ _ d] at x; cases x
  · refine ⟨fun _ => ?_, fun x => (by rw [e2] at x; cases x)⟩
    rw [e1, e3]
    have hf : f S.next = none := by
      cases k : f S.next with
      | none => rfl
      | some y => have := h.low _ _ k; omega
    refine ⟨Or.inl hf, fun t j x => ?_, fun j t x => ?_⟩
    · by_cases d : t = S.next
      · subst d; show S.next < S.next + 1; omega
      · rw [set_other _ _ _ _ d] at x; have := h.low _ _ x; show t < S.next + 1; omega
    · by_cases d : j = s
      · subst d; simp only [set_same] at x; cases x; exact set_same _ _ _
      · simp only [set_other _ _ _ _ d] at x
        have := (g.low j t x).2
        rw [set_other _ _ _ _ (by omega)]
        exact h.has j t x
/-- the law's own map beside the tags -/
structure Bes (w W : World) (b n : Nat) (f : Int → Option Int) : Prop where
  map : MapI W b n f
  lo : w.heap.size + 3 ≤ b
theorem Bes.kp {w W W' : World} {b n : Nat} {f : Int → Option Int} (h : Bes w W b n f) (k : Kp (w.heap.size + 2) w.heap.size (w.heap.size + 1) W W') : Bes w W' b n f := by
  obtain ⟨⟨c, m⟩, lo⟩ := h
  exact ⟨⟨c, m.block (k.block b m.lt (by omega) (by omega) (by omega))⟩, lo⟩
theorem Bes.below {w W W' : World} {b n : Nat} {f : Int → Option Int} (h : Bes w W b n f) (k : Below W.heap.size W W') : Bes w W' b n f := by
  obtain ⟨⟨c, m⟩, lo⟩ := h
  exact ⟨⟨c, m.block (k.block b m.lt)⟩, lo⟩
theorem Bes.mono {w W : World} {b n n' : Nat} {f : Int → Option Int} (h : Bes w W b n f) (k : n ≤ n') : Bes w W b n' f := by
  obtain ⟨⟨c, m⟩, lo⟩ := h
  exact ⟨⟨c, m.mono k⟩, lo⟩
theorem Bes.set {w W : World} {b n : Nat} {f : Int → Option Int} (h : Bes w W b n f) (hn : n < maxLen) {k v : Int} (hk : (Lit.int .i64 k).wf = true) (hv : (Lit.int .i64 v).wf = true) : ∃ W', (Instr.mapUpdate 44 (.map (some b)) (.int .i64 k) (.int .i64 v)).run Try.prog W = .ok () W' ∧ Bes w W' b (n + 1) (setF f k (some v)) ∧ W.grownBy W' (some b) := by
  obtain ⟨⟨c, m⟩, lo⟩ := h
  obtain ⟨W', r, m', g⟩ := m.set hn hk hv
  exact ⟨W', r, ⟨⟨_, m'⟩, lo⟩, g⟩
theorem own_grown {w W W' : World} {b n : Nat} {S : Tg} (h : Own w W (w.heap.size + 2) w.heap.size (w.heap.size + 1) n S) (g : W.grownBy W' (some b)) (lo : w.heap.size + 3 ≤ b) : Own w W' (w.heap.size + 2) w.heap.size (w.heap.size + 1) n S := by
  obtain ⟨h1, h2, h3⟩ := h
  refine ⟨h1.kept (fun k hk hq => g.block k hk (by simp; omega)), ?_, h3⟩
  exact h2.trans ⟨g.os, g.tape, g.output, g.size, fun k hk => g.block k (Nat.lt_of_lt_of_le hk h2.size) (by simp; omega)⟩
theorem grown_cell {W W' : World} {b k i : Nat} (g : W.grownBy W' (some b)) (l : k < W.heap.size) (ne : k ≠ b) : W'.cell? ⟨k, i, none⟩ = W.cell? ⟨k, i, none⟩ := World.cell?_of_block (g.block k l (by simpa using ne))

set_option maxRecDepth 8000 in
set_option maxHeartbeats 4000000 in
theorem walk (a0 : Int) (w0 : (Lit.int .i64 a0).wf = true) (p1 : Option Addr) (n1 c1 : Nat) (A1 : Nat → Ac) (m1 : n1 ≤ maxLen) (w : World) (H1 : IsActs w p1 n1 A1) :
    Calls Try.prog 4 #[.int .i64 a0, .slice p1 n1 c1] w fun e w' => e = .returned (.bool true) ∧ Below w.heap.size w w' := by
  have AWH : Hid (∀ W : World, Calls Try.prog 9 #[] W fun e w' => e = .returned (.bool true) ∧ Below W.heap.size W w') := fun W => awake_any W
  by_cases q0 : a0 < 1 ∨ 4095 < a0
  · have NW : Hid (∀ W : World, Calls Try.prog 8 #[.int .i64 a0] W fun e w' => e = .returned (.tuple #[.pointer none, .int .i64 1]) ∧ w' = W) := fun W => new_no a0 q0 W
    by_cases q2 : a0 < 1
    · have e1 : decide (a0 < 1) = true := by simp [q2]
      go_enter Try.func4, Try.ntmps4
      go_wp2_with fail
      refine (NW.out _).mono ?_
      rintro e u ⟨rfl, hu⟩
      have hu2 := hu.symm
      subst hu2
      clear hu
      go_wp2_with fail
      refine (AWH.out _).mono ?_
      rintro e u9 ⟨rfl, hb⟩
      have B9 : Hid (Below w.heap.size w u9) := hb
      clear hb
      go_wp2_with fail
      go_ret
      exact ⟨rfl, B9.out⟩
    · have e1 : decide (a0 < 1) = false := by simp; omega
      have e2 : decide (4095 < a0) = true := by simp; omega
      go_enter Try.func4, Try.ntmps4
      go_wp2_with fail
      refine (NW.out _).mono ?_
      rintro e u ⟨rfl, hu⟩
      have hu2 := hu.symm
      subst hu2
      clear hu
      go_wp2_with fail
      refine (AWH.out _).mono ?_
      rintro e u9 ⟨rfl, hb⟩
      have B9 : Hid (Below w.heap.size w u9) := hb
      clear hb
      go_wp2_with fail
      go_ret
      exact ⟨rfl, B9.out⟩
  have NW : Hid (Calls Try.prog 8 #[.int .i64 a0] w fun e w' => e = .returned (.tuple #[.pointer (some ⟨w.heap.size + 2, 0, none⟩), .int .i64 0]) ∧ Own w w' (w.heap.size + 2) w.heap.size (w.heap.size + 1) 0 (freshS a0)) := new_ok a0 (by omega) (by omega) w
  have GT : Hid (∀ (S : Tg), Good S → S.gen < 4611686018427387904 → ∀ (n : Nat), n < maxLen → ∀ s : Int, (Lit.int .i64 s).wf = true → ∀ W : World, IsTags W (w.heap.size + 2) w.heap.size (w.heap.size + 1) n S → Calls Try.prog 12 #[.pointer (some ⟨w.heap.size + 2, 0, none⟩), .int .i64 s] W fun e w' => e = .returned (.tuple #[.int .i64 (getV S s), .bool (getB S s)]) ∧ IsTags w' (w.heap.size + 2) w.heap.size (w.heap.size + 1) (n + 1) (getS S s) ∧ Kp (w.heap.size + 2) w.heap.size (w.heap.size + 1) W w') := fun S g hg n hn s hs W h => get_any _ _ _ n S s hs g.ok hg hn W h
  have DT : Hid (∀ (S : Tg), Good S → ∀ (n : Nat) (s : Int), (Lit.int .i64 s).wf = true → ∀ W : World, IsTags W (w.heap.size + 2) w.heap.size (w.heap.size + 1) n S → Calls Try.prog 10 #[.pointer (some ⟨w.heap.size + 2, 0, none⟩), .int .i64 s] W fun e w' => e = .returned (.tuple #[]) ∧ IsTags w' (w.heap.size + 2) w.heap.size (w.heap.size + 1) n (dropS S s) ∧ Kp (w.heap.size + 2) w.heap.size (w.heap.size + 1) W w') := fun S g n s hs W h => drop_any _ _ _ n S s hs g.ok W h
  have TT : Hid (∀ (S : Tg) (n : Nat) (s : Int), (Lit.int .i64 s).wf = true → ∀ W : World, IsTags W (w.heap.size + 2) w.heap.size (w.heap.size + 1) n S → Calls Try.prog 14 #[.pointer (some ⟨w.heap.size + 2, 0, none⟩), .int .i64 s] W fun e w' => e = .returned (.tuple #[.int .i64 ((S.T s).getD 0), .bool (S.T s).isSome]) ∧ w' = W) := fun S n s hs W h => tag_any _ _ _ n S s hs W h
  have OT : Hid (∀ (S : Tg) (n : Nat) (s : Int), (Lit.int .i64 s).wf = true → ∀ W : World, IsTags W (w.heap.size + 2) w.heap.size (w.heap.size + 1) n S → Calls Try.prog 16 #[.pointer (some ⟨w.heap.size + 2, 0, none⟩), .int .i64 s] W fun e w' => e = .returned (.tuple #[.int .i64 ((S.O s).getD 0), .bool (S.O s).isSome]) ∧ w' = W) := fun S n s hs W h => owner_any _ _ _ n S s hs W h
  have ET : Hid (∀ (S : Tg) (n : Nat), ∀ W : World, IsTags W (w.heap.size + 2) w.heap.size (w.heap.size + 1) n S → Calls Try.prog 17 #[.pointer (some ⟨w.heap.size + 2, 0, none⟩)] W fun e w' => e = .returned (.int .i64 S.gen) ∧ w' = W) := fun S n W h => gen_any _ _ _ n S W h
  have mm : (n1 : Int) ≤ 9223372036854775807 := by have : maxLen ≤ 9223372036854775807 := by decide +kernel
                                                   omega
  have HA : Hid (IsActs w p1 n1 A1) := H1
  have ML : Hid (241 < maxLen) := by show 241 < maxLen; decide +kernel
  have GF : Hid (Good (freshS a0)) := fresh_good a0 (by omega) (by omega)
  have hmm := @run_makeMap Try.prog
  clear H1
  go_enter Try.func4, Try.ntmps4
  go_wp2_with fail
  refine NW.out.mono ?_
  rintro e u0 ⟨rfl, h0⟩
  have M0 : Hid (Own w u0 (w.heap.size + 2) w.heap.size (w.heap.size + 1) 0 (freshS a0)) := h0
  clear h0 NW
  go_wp2_with fail
  have N0 : Hid (Own w (u0.alloc (.map #[] 0)) (w.heap.size + 2) w.heap.size (w.heap.size + 1) 0 (freshS a0)) := M0.out.grow (Go.Joins.below_alloc1 _ _)
  have X0 : Hid (Bes w (u0.alloc (.map #[] 0)) u0.heap.size 0 noneF) := ⟨⟨0, MapC.made u0⟩, (by have := blk_lt M0.out.1.blk; omega)⟩
  clear M0
  go_loopw [7, 8] (fun y x W => ∃ (k : Nat) (S : Tg) (b : Nat) (f : Int → Option Int), k ≤ n1 ∧ k ≤ 80 ∧ y = .map (some b) ∧ x = .int .i64 k ∧ Hid (Good S) ∧ Hid (S.gen ≤ k) ∧ Hid (S.most = a0) ∧ Hid (Inv S f) ∧ Hid (Own w W (w.heap.size + 2) w.heap.size (w.heap.size + 1) (2 * k) S) ∧ Hid (Bes w W b k f)) (fun _ x _ => 80 - (intOf x).toNat)
  case atStart => exact ⟨0, freshS a0, u0.heap.size, noneF, by omega, by omega, rfl, rfl, GF, Int.le_refl _, rfl, inv_fresh a0, N0, X0⟩
  case round =>
    obtain ⟨k, S, bo, f, hk, hk6, rfl, rfl, hG, hE, hS, hI, hM, hB⟩ := hrel
    by_cases hlt : k < n1 ∧ k < 80
    · have hd : decide ((k : Int) < (n1 : Int)) = true := by simp; omega
      have hd2 : decide ((k : Int) < 80) = true := by simp; omega
      obtain ⟨b, o, rfl, lb, c0, c1, wf⟩ := HA.out k hlt.1
      generalize A1 k = a at c0 c1 wf
      obtain ⟨d, s⟩ := a
      simp only at c0 c1 wf
      have y0 : wr.cell? ⟨b, o + k * 2, none⟩ = some (.bool d) := (hM.out.2.1.cell (p := ⟨b, _, none⟩) lb).trans c0
      have y1 : wr.cell? ⟨b, o + k * 2 + 1, none⟩ = some (.int .i64 s) := (hM.out.2.1.cell (p := ⟨b, _, none⟩) lb).trans c1
      have lbw : b < wr.heap.size := Nat.lt_of_lt_of_le lb hM.out.2.1.size
      clear c0 c1
      have MA : Hid (Own w (wr.alloc (.cells #[.bool d, .int .i64 s] 32)) (w.heap.size + 2) w.heap.size (w.heap.size + 1) (2 * k) S) := hM.out.grow (Go.Joins.below_alloc1 _ _)
      have BA : Hid (Bes w (wr.alloc (.cells #[.bool d, .int .i64 s] 32)) bo k f) := hB.out.below (Go.Joins.below_alloc1 _ _)
      have lq : Hid (w.heap.size + 3 ≤ wr.heap.size) := by show _ ≤ _; have := blk_lt hM.out.1.blk; omega
      have ob : Hid (bo < wr.heap.size) := by obtain ⟨⟨c, m⟩, _⟩ := hB.out; exact m.lt
      clear hM hB
      cases d
      · have g1 : Hid _ := GT.out S hG.out (by have := hE.out; omega) (2 * k) (by have := ML.out; omega) s wf
        have G2 : Hid (Good (getS S s)) := hG.out.get s
        have E2 : Hid ((getS S s).gen ≤ ((k + 1 : Nat) : Int)) := by show _ ≤ _; have := (hG.out.ok.get s).2.1; have := hE.out; omega
        have g2 : Hid _ := GT.out (getS S s) G2.out (by have := E2.out; omega) (2 * k + 1) (by have := ML.out; omega) s wf
        obtain ⟨i1, i2⟩ := inv_get hG.out hI.out s
        obtain ⟨p1, p2, p3, p4, p5, p6, p7⟩ := get_facts hG.out s
        have wv : (Lit.int .i64 (getV S s)).wf = true := wf64 (by omega) (by have := hG.out.ok.m1; omega)
        have o1 : Hid _ := OT.out (getS S s) (2 * k + 1) (getV S s) wv
        have S2 : Hid ((getS S s).most = a0) := (hG.out.ok.get s).2.2.trans hS.out
        rw [p5, p6, p7] at g2
        rw [p2] at o1
        rw [hS.out] at p4
        have o2 : Hid (∀ W : World, IsTags W (w.heap.size + 2) w.heap.size (w.heap.size + 1) (2 * k + 1) (getS S s) → Calls Try.prog 16 #[.pointer (some ⟨w.heap.size + 2, 0, none⟩), .int .i64 (getV S s)] W fun e w' => e = .returned (.tuple #[.int .i64 s, .bool true]) ∧ w' = W) := o1
        clear o1 p1 p2 p5 p6 p7 GT DT TT OT ET HA hG hI hE hS
        generalize getV S s = v at g1 g2 o2 i1 i2 wv p3 p4
        generalize getB S s = bb at g1 i1 i2
        generalize getS S s = T2 at g1 g2 o2 i1 i2 G2 E2 S2
        have v1 : decide (v < 1) = false := by simp; omega
        have v2 : decide (a0 < v) = false := by simp; omega
        cases bb
        · obtain ⟨fv, iv⟩ := i1 rfl
          have I2 : Hid (Inv T2 (setF f v (some s))) := iv
          clear i1 i2 iv
          go_wp2_with fail
          refine (g1.out _ MA.out.1).mono ?_
          rintro e u1 ⟨rfl, h1, h2⟩
          have M0 : Hid (Own w u1 (w.heap.size + 2) w.heap.size (w.heap.size + 1) (2 * k + 1) T2) := MA.out.next h1 h2
          have X0 : Hid (Bes w u1 bo k f) := BA.out.kp h2
          have y2 : u1.cell? ⟨wr.heap.size, 1, none⟩ = some (.int .i64 s) := (h2.cell (by rw [World.size_alloc]; omega) (by have := lq.out; omega) (by have := lq.out; omega) (by have := lq.out; omega)).trans (by simp)
          have l2 : wr.heap.size < u1.heap.size := Nat.lt_of_lt_of_le (by rw [World.size_alloc]; omega) h2.size
          clear h1 h2 g1 MA BA y0 y1
          obtain ⟨z0, hz0⟩ : ∃ z0, wr.heap.size = z0 := ⟨_, rfl⟩
          rw [hz0] at lq ob y2 l2 ⊢
          have lq2 : Hid (w.heap.size + 3 ≤ z0) := lq.out
          clear hz0 lq
          have ne2 : Hid (z0 ≠ bo) := by show z0 ≠ bo; have := ob.out; omega
          have M1 := M0
          have X1 := X0
          obtain ⟨cc, mc⟩ := X0.out.map
          have hl := mc.look wv
          clear M0 X0 mc
          rcases fv with fv | fv
          · rw [fv] at hl
            have hl' : (Instr.lookup 44 (.map (some bo)) (.int .i64 v) true).run Try.prog u1 = .ok (.tuple #[.int .i64 0, .bool false]) u1 := hl
            clear hl fv
            have m1 : Hid (∃ W', (Instr.mapUpdate 44 (.map (some bo)) (.int .i64 v) (.int .i64 s)).run Try.prog u1 = .ok () W' ∧ Bes w W' bo (k + 1) (setF f v (some s)) ∧ u1.grownBy W' (some bo)) := X1.out.set (by have := ML.out; omega) wv wf
            obtain ⟨u2, r2, x2, k2⟩ := m1.out
            have M2 : Hid (Own w u2 (w.heap.size + 2) w.heap.size (w.heap.size + 1) (2 * k + 1) T2) := own_grown M1.out k2 X1.out.lo
            have X2 : Hid (Bes w u2 bo (k + 1) (setF f v (some s))) := x2
            have y3 : u2.cell? ⟨z0, 1, none⟩ = some (.int .i64 s) := (grown_cell k2 l2 (by have := ne2.out; omega)).trans y2
            have l3 : z0 < u2.heap.size := Nat.lt_of_lt_of_le l2 k2.size
            clear x2 k2 m1
            go_wp2_with fail
            refine (o2.out _ M2.out.1).mono ?_
            rintro e u3 ⟨rfl, hu⟩
            subst hu
            go_wp2_with fail
            refine (g2.out _ M2.out.1).mono ?_
            rintro e u4 ⟨rfl, h1, h2⟩
            have M4 : Hid (Own w u4 (w.heap.size + 2) w.heap.size (w.heap.size + 1) (2 * (k + 1)) T2) := M2.out.next h1 h2
            have X4 : Hid (Bes w u4 bo (k + 1) (setF f v (some s))) := (X2.out.kp h2).mono (by omega)
            have y4 : u4.cell? ⟨z0, 1, none⟩ = some (.int .i64 s) := (h2.cell l3 (by have := lq2.out; omega) (by have := lq2.out; omega) (by have := lq2.out; omega)).trans y3
            have l4 : z0 < u4.heap.size := Nat.lt_of_lt_of_le l3 h2.size
            clear h1 h2
            go_wp2_with fail
            go_roundw
            case rel => exact ⟨k + 1, T2, bo, setF f v (some s), by omega, by omega, rfl, by go_num, G2, E2, S2, I2, M4, X4⟩
            case measure => simp [intOf]; omega
          · rw [fv] at hl
            have hl' : (Instr.lookup 44 (.map (some bo)) (.int .i64 v) true).run Try.prog u1 = .ok (.tuple #[.int .i64 s, .bool true]) u1 := hl
            clear hl fv
            have m1 : Hid (∃ W', (Instr.mapUpdate 44 (.map (some bo)) (.int .i64 v) (.int .i64 s)).run Try.prog u1 = .ok () W' ∧ Bes w W' bo (k + 1) (setF f v (some s)) ∧ u1.grownBy W' (some bo)) := X1.out.set (by have := ML.out; omega) wv wf
            obtain ⟨u2, r2, x2, k2⟩ := m1.out
            have M2 : Hid (Own w u2 (w.heap.size + 2) w.heap.size (w.heap.size + 1) (2 * k + 1) T2) := own_grown M1.out k2 X1.out.lo
            have X2 : Hid (Bes w u2 bo (k + 1) (setF f v (some s))) := x2
            have y3 : u2.cell? ⟨z0, 1, none⟩ = some (.int .i64 s) := (grown_cell k2 l2 (by have := ne2.out; omega)).trans y2
            have l3 : z0 < u2.heap.size := Nat.lt_of_lt_of_le l2 k2.size
            clear x2 k2 m1
            go_wp2_with fail
            refine (o2.out _ M2.out.1).mono ?_
            rintro e u3 ⟨rfl, hu⟩
            subst hu
            go_wp2_with fail
            refine (g2.out _ M2.out.1).mono ?_
            rintro e u4 ⟨rfl, h1, h2⟩
            have M4 : Hid (Own w u4 (w.heap.size + 2) w.heap.size (w.heap.size + 1) (2 * (k + 1)) T2) := M2.out.next h1 h2
            have X4 : Hid (Bes w u4 bo (k + 1) (setF f v (some s))) := (X2.out.kp h2).mono (by omega)
            have y4 : u4.cell? ⟨z0, 1, none⟩ = some (.int .i64 s) := (h2.cell l3 (by have := lq2.out; omega) (by have := lq2.out; omega) (by have := lq2.out; omega)).trans y3
            have l4 : z0 < u4.heap.size := Nat.lt_of_lt_of_le l3 h2.size
            clear h1 h2
            go_wp2_with fail
            go_roundw
            case rel => exact ⟨k + 1, T2, bo, setF f v (some s), by omega, by omega, rfl, by go_num, G2, E2, S2, I2, M4, X4⟩
            case measure => simp [intOf]; omega
        · have I2 : Hid (Inv T2 (setF noneF v (some s))) := i2 rfl
          clear i1 i2
          go_wp2_with fail
          refine (g1.out _ MA.out.1).mono ?_
          rintro e u1 ⟨rfl, h1, h2⟩
          have M0 : Hid (Own w u1 (w.heap.size + 2) w.heap.size (w.heap.size + 1) (2 * k + 1) T2) := MA.out.next h1 h2
          have X0 : Hid (Bes w u1 bo k f) := BA.out.kp h2
          have y2 : u1.cell? ⟨wr.heap.size, 1, none⟩ = some (.int .i64 s) := (h2.cell (by rw [World.size_alloc]; omega) (by have := lq.out; omega) (by have := lq.out; omega) (by have := lq.out; omega)).trans (by simp)
          have l2 : wr.heap.size < u1.heap.size := Nat.lt_of_lt_of_le (by rw [World.size_alloc]; omega) h2.size
          clear h1 h2 g1 MA BA y0 y1
          obtain ⟨z0, hz0⟩ : ∃ z0, wr.heap.size = z0 := ⟨_, rfl⟩
          rw [hz0] at lq ob y2 l2 ⊢
          have lq2 : Hid (w.heap.size + 3 ≤ z0) := lq.out
          clear hz0 lq
          have M1 : Hid (Own w (u1.alloc (.map #[] 0)) (w.heap.size + 2) w.heap.size (w.heap.size + 1) (2 * k + 1) T2) := M0.out.grow (Go.Joins.below_alloc1 _ _)
          have ne2 : Hid (z0 ≠ u1.heap.size) := by show _ ≠ _; omega
          have X1 : Hid (Bes w (u1.alloc (.map #[] 0)) u1.heap.size 0 noneF) := ⟨⟨0, MapC.made u1⟩, (by have := lq2.out; omega)⟩
          have hl := (MapC.made u1).look wv
          have hl' : (Instr.lookup 44 (.map (some u1.heap.size)) (.int .i64 v) true).run Try.prog (u1.alloc (.map #[] 0)) = .ok (.tuple #[.int .i64 0, .bool false]) (u1.alloc (.map #[] 0)) := hl
          have y2' : (u1.alloc (.map #[] 0)).cell? ⟨z0, 1, none⟩ = some (.int .i64 s) := (World.cell?_alloc_lt _ _ _ l2).trans y2
          have l2' : z0 < (u1.alloc (.map #[] 0)).heap.size := by rw [World.size_alloc]; omega
          clear hl M0 X0
          have m1 : Hid (∃ W', (Instr.mapUpdate 44 (.map (some u1.heap.size)) (.int .i64 v) (.int .i64 s)).run Try.prog (u1.alloc (.map #[] 0)) = .ok () W' ∧ Bes w W' u1.heap.size (0 + 1) (setF noneF v (some s)) ∧ (u1.alloc (.map #[] 0)).grownBy W' (some u1.heap.size)) := X1.out.set (by have := ML.out; omega) wv wf
          obtain ⟨u2, r2, x2, k2⟩ := m1.out
          have M2 : Hid (Own w u2 (w.heap.size + 2) w.heap.size (w.heap.size + 1) (2 * k + 1) T2) := own_grown M1.out k2 X1.out.lo
          have X2 : Hid (Bes w u2 u1.heap.size (0 + 1) (setF noneF v (some s))) := x2
          have y3 : u2.cell? ⟨z0, 1, none⟩ = some (.int .i64 s) := (grown_cell k2 l2' (by have := ne2.out; omega)).trans y2'
          have l3 : z0 < u2.heap.size := Nat.lt_of_lt_of_le l2' k2.size
          clear x2 k2 m1
          go_wp2_with fail
          refine (o2.out _ M2.out.1).mono ?_
          rintro e u3 ⟨rfl, hu⟩
          subst hu
          go_wp2_with fail
          refine (g2.out _ M2.out.1).mono ?_
          rintro e u4 ⟨rfl, h1, h2⟩
          have M4 : Hid (Own w u4 (w.heap.size + 2) w.heap.size (w.heap.size + 1) (2 * (k + 1)) T2) := M2.out.next h1 h2
          have X4 : Hid (Bes w u4 u1.heap.size (k + 1) (setF noneF v (some s))) := (X2.out.kp h2).mono (by omega)
          have y4 : u4.cell? ⟨z0, 1, none⟩ = some (.int .i64 s) := (h2.cell l3 (by have := lq2.out; omega) (by have := lq2.out; omega) (by have := lq2.out; omega)).trans y3
          have l4 : z0 < u4.heap.size := Nat.lt_of_lt_of_le l3 h2.size
          clear h1 h2
          go_wp2_with fail
          go_roundw
          case rel => exact ⟨k + 1, T2, u1.heap.size, setF noneF v (some s), by omega, by omega, rfl, by go_num, G2, E2, S2, I2, M4, X4⟩
          case measure => simp [intOf]; omega
      · have g1 : Hid _ := DT.out S hG.out (2 * k) s wf
        have G2 : Hid (Good (dropS S s)) := hG.out.drop s
        have E2 : Hid ((dropS S s).gen ≤ ((k + 1 : Nat) : Int)) := by show _ ≤ _; have := (hG.out.ok.drop s).2.1; have := hE.out; omega
        have S2 : Hid ((dropS S s).most = a0) := (hG.out.ok.drop s).2.2.trans hS.out
        have I2 : Hid (Inv (dropS S s) f) := inv_drop hI.out s
        generalize dropS S s = T2 at g1 G2 E2 S2 I2
        go_wp2_with fail
        refine (g1.out _ MA.out.1).mono ?_
        rintro e u1 ⟨rfl, h1, h2⟩
        have M1 : Hid (Own w u1 (w.heap.size + 2) w.heap.size (w.heap.size + 1) (2 * (k + 1)) T2) := MA.out.next (h1.mono (by omega)) h2
        have X1 : Hid (Bes w u1 bo (k + 1) f) := (BA.out.kp h2).mono (Nat.le_succ _)
        clear h1 h2
        go_wp2_with fail
        go_roundw
        case rel => exact ⟨k + 1, T2, bo, f, by omega, by omega, rfl, by go_num, G2, E2, S2, I2, M1, X1⟩
        case measure => simp [intOf]; omega
    · clear GT DT TT OT ET HA
      by_cases hq : k < n1
      · have hd : decide ((k : Int) < (n1 : Int)) = true := by simp; omega
        have hd2 : decide ((k : Int) < 80) = false := by simp; omega
        clear hlt
        go_wp2_with fail
        refine (AWH.out _).mono ?_
        rintro e u9 ⟨rfl, hb⟩
        have B9 : Hid (Below w.heap.size w u9) := (below_then hM.out.2.1 hb)
        clear hb
        go_wp2_with fail
        go_ret
        exact ⟨rfl, B9.out⟩
      · have hd : decide ((k : Int) < (n1 : Int)) = false := by simp; omega
        clear hlt
        go_wp2_with fail
        refine (AWH.out _).mono ?_
        rintro e u9 ⟨rfl, hb⟩
        have B9 : Hid (Below w.heap.size w u9) := (below_then hM.out.2.1 hb)
        clear hb
        go_wp2_with fail
        go_ret
        exact ⟨rfl, B9.out⟩

theorem own : ownKnob Try.prog.godebug = none := by kernel_rfl
theorem laidOut : laidOutB Try.prog = true := by kernel_rfl
set_option maxRecDepth 100000 in
theorem lifted (os : Os) (started : os.Started) (H : Type) (enc : TypeId × Value → H) :
    ReturnsInHanded {} Try.checked os 4 .any (Rows.pcidOnceSpec.pre6 enc Try.prog Try.f4 Rows.pcidOnceRow.domain false) (Rows.pcidOnceSpec.post enc Try.prog Try.f4 false true false false) := by
  refine returnsInHanded_of_change (C := Try.checked) own started (by kernel_rfl) Try.func4
    (ChangeSpec.witness6 (enc := enc) (C := Try.checked) false ⟨#[], #[.int .i64 0, .slice none 0 0], []⟩ 8 (by kernel_rfl) (by kernel_rfl) (by kernel_rfl) (by kernel_rfl)) ?_
  intro W base args ds gs before hval0 hW hcnd _
  have hval : ∀ (j : Nat) t v, Try.f4.params[j]? = some t → args[j]? = some v → Value.okWide Try.prog W .any base t v := hval0
  have hW' := hW
  obtain ⟨p, q, hA0, hV, hbef, hfz, hnd⟩ := hW
  have hA : DataW.TrodAll enc Try.prog W 0 (fun _ => true) true Try.f4.params.toList args.toList ds p := hA0
  have hAk := hA
  have hlt : ∀ x ∈ p, x.block < W.heap.size := fun x hx => hW'.lt x (by rw [hbef]; exact List.mem_append_left _ hx)
  rw [Try.params4] at hA hval
  obtain ⟨v0, vs0, d0, ds0, p0, q0, hargs, rfl, hp0, h0, r0⟩ := trodAll_cons hA
  obtain ⟨v1, vs1, d1, ds1, p1, q1, rfl, rfl, hp1, h1, r1⟩ := trodAll_cons r0
  obtain ⟨rfl, rfl, hpz⟩ := trodAll_nil r1
  obtain rfl : args = #[v0, v1] := by cases args; simp_all
  obtain ⟨rfl, rfl⟩ := trodVars_none hV
  obtain ⟨a0, rfl, _, _, w0⟩ := open_int Try.underlying3 (hval 0 3 v0 rfl rfl) h0
  obtain ⟨p1, n1, c1, A1, rfl, m1, H1⟩ := open_acts (hval 1 22 v1 rfl rfl) h1
  clear hA0 hval0
  refine (walk a0 w0 p1 n1 c1 A1 m1 W H1).mono fun e W' ⟨he, hg⟩ => ?_
  subst he
  exact ⟨_, rfl, ⟨_, _, _, [], p, [], hW', (trodAll_cons_mk (shut_bool Try.underlying4 _) trodAll_mk0), args_stay laidOut hg (by kernel_rfl) hAk hlt, rfl, hg.frame _, fun h => by cases h⟩⟩

theorem over : Rows.pcidOnceRow.holds Try.pinned (OpenSpec.ofChange Rows.pcidOnceSpec) :=
  OpenClaim.holds_of_wide 4 Try.f4 rfl rfl rfl rfl rfl rfl rfl ⟨rfl, rfl, rfl, rfl, rfl⟩ rfl rfl rfl rfl rfl (by kernel_rfl) Try.func4 (by kernel_rfl)
    (of_decide_eq_true (by kernel_rfl)) (by unfold Func.isWrapper; first | (rw [if_pos (by decide +kernel)]; kernel_rfl) | (rw [if_neg (by decide +kernel)]; exact ⟨rfl, rfl⟩))
    (fun os started H enc _ => lifted os started H enc)

theorem proved : Rows.PcidOnceSaid :=
  over
#print axioms proved
end Go.Proofs.Ytbdakoijhpobdaa.pcidOnce
