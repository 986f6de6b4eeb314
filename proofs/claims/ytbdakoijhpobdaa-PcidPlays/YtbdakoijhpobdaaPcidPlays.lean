/- For any number of tags, any calls and any tag: behind each of any 80 calls tags are given, kept and forgotten as the document says, and each tag's owner and the generation are the document's; no condition. -/
import Derived.Test.YtbdakoijhpobdaaRows
import Derived.ProofKit
import Derived.OpenShut
import Derived.Carry
import Derived.Test.YtbdakoijhpobdaaK8
import Derived.Deep.QuietTactic
import Derived.BigQuiet
namespace Go.Proofs.Ytbdakoijhpobdaa.pcidPlays
open Go.ChangeShapes Go.WideShapes Go.ChangeAt Go.RowKit Go.Maps
set_option linter.unusedSimpArgs false
set_option linter.unusedVariables false
theorem own_sc {w W : World} {b o n : Nat} {v : Value} {S : Tg} (h : Own w W (w.heap.size + 2) w.heap.size (w.heap.size + 1) n S) (hb : w.heap.size + 3 ≤ b) : Own w (W.setCell ⟨b, o, none⟩ v) (w.heap.size + 2) w.heap.size (w.heap.size + 1) n S := own_grown h (grown_setCell1 W b o v) hb
theorem gv_kp {W W' : World} {base : Nat} {x y z : Nat} {p : Option Addr} {B : List Gv} (h : IsGv W base p B) (k : Kp x y z W W') (hx : x < base) (hy : y < base) (hz : z < base) : IsGv W' base p B := fun i hi => by
  obtain ⟨g, e, l1, l2, c⟩ := h i hi
  exact ⟨g, e, l1, Nat.lt_of_lt_of_le l2 k.size, fun j q hq => (World.cell?_of_block (w := W) (a := ⟨g, i * 2 + j, none⟩) (k.block g l2 (by omega) (by omega) (by omega))).trans (c j q hq)⟩

set_option maxRecDepth 8000 in
set_option maxHeartbeats 32000000 in
theorem walk (a0 : Int) (w0 : (Lit.int .i64 a0).wf = true) (p1 : Option Addr) (n1 c1 : Nat) (A1 : Nat → Ac) (m1 : n1 ≤ maxLen) (a2 : Int) (w2 : (Lit.int .i64 a2).wf = true) (w : World) (H1 : IsActs w p1 n1 A1) :
    Calls Try.prog 3 #[.int .i64 a0, .slice p1 n1 c1, .int .i64 a2] w fun e w' => e = .returned (.bool true) ∧ Below w.heap.size w w' := by
  have AWH : Hid (∀ W : World, Calls Try.prog 9 #[] W fun e w' => e = .returned (.bool true) ∧ Below W.heap.size W w') := fun W => awake_any W
  by_cases q0 : a0 < 1 ∨ 4095 < a0
  · have NW : Hid (∀ W : World, Calls Try.prog 8 #[.int .i64 a0] W fun e w' => e = .returned (.tuple #[.pointer none, .int .i64 1]) ∧ w' = W) := fun W => new_no a0 q0 W
    by_cases q2 : a0 < 1
    · have e1 : decide (a0 < 1) = true := by simp [q2]
      go_enter Try.func3, Try.ntmps3
      go_wp2_with fail
      refine (NW.out _).mono ?_
      rintro e u ⟨rfl, hu⟩
      have hu2 := hu.symm
      subst hu2
      clear hu
      go_wp2_with fail
      refine (AWH.out _).mono ?_
      rintro e u9 ⟨rfl, hb⟩
      have B9 : Hid (Below w.heap.size w u9) := hb
      clear hb
      go_wp2_with fail
      go_ret
      exact ⟨rfl, B9.out⟩
    · have e1 : decide (a0 < 1) = false := by simp; omega
      have e2 : decide (4095 < a0) = true := by simp; omega
      go_enter Try.func3, Try.ntmps3
      go_wp2_with fail
      refine (NW.out _).mono ?_
      rintro e u ⟨rfl, hu⟩
      have hu2 := hu.symm
      subst hu2
      clear hu
      go_wp2_with fail
      refine (AWH.out _).mono ?_
      rintro e u9 ⟨rfl, hb⟩
      have B9 : Hid (Below w.heap.size w u9) := hb
      clear hb
      go_wp2_with fail
      go_ret
      exact ⟨rfl, B9.out⟩
  have NW : Hid (Calls Try.prog 8 #[.int .i64 a0] w fun e w' => e = .returned (.tuple #[.pointer (some ⟨w.heap.size + 2, 0, none⟩), .int .i64 0]) ∧ Own w w' (w.heap.size + 2) w.heap.size (w.heap.size + 1) 0 (freshS a0)) := new_ok a0 (by omega) (by omega) w
  have GT : Hid (∀ (S : Tg), Good S → S.gen < 4611686018427387904 → ∀ (n : Nat), n < maxLen → ∀ s : Int, (Lit.int .i64 s).wf = true → ∀ W : World, IsTags W (w.heap.size + 2) w.heap.size (w.heap.size + 1) n S → Calls Try.prog 12 #[.pointer (some ⟨w.heap.size + 2, 0, none⟩), .int .i64 s] W fun e w' => e = .returned (.tuple #[.int .i64 (getV S s), .bool (getB S s)]) ∧ IsTags w' (w.heap.size + 2) w.heap.size (w.heap.size + 1) (n + 1) (getS S s) ∧ Kp (w.heap.size + 2) w.heap.size (w.heap.size + 1) W w') := fun S g hg n hn s hs W h => get_any _ _ _ n S s hs g.ok hg hn W h
  have DT : Hid (∀ (S : Tg), Good S → ∀ (n : Nat) (s : Int), (Lit.int .i64 s).wf = true → ∀ W : World, IsTags W (w.heap.size + 2) w.heap.size (w.heap.size + 1) n S → Calls Try.prog 10 #[.pointer (some ⟨w.heap.size + 2, 0, none⟩), .int .i64 s] W fun e w' => e = .returned (.tuple #[]) ∧ IsTags w' (w.heap.size + 2) w.heap.size (w.heap.size + 1) n (dropS S s) ∧ Kp (w.heap.size + 2) w.heap.size (w.heap.size + 1) W w') := fun S g n s hs W h => drop_any _ _ _ n S s hs g.ok W h
  have TT : Hid (∀ (S : Tg) (n : Nat) (s : Int), (Lit.int .i64 s).wf = true → ∀ W : World, IsTags W (w.heap.size + 2) w.heap.size (w.heap.size + 1) n S → Calls Try.prog 14 #[.pointer (some ⟨w.heap.size + 2, 0, none⟩), .int .i64 s] W fun e w' => e = .returned (.tuple #[.int .i64 ((S.T s).getD 0), .bool (S.T s).isSome]) ∧ w' = W) := fun S n s hs W h => tag_any _ _ _ n S s hs W h
  have OT : Hid (∀ (S : Tg) (n : Nat) (s : Int), (Lit.int .i64 s).wf = true → ∀ W : World, IsTags W (w.heap.size + 2) w.heap.size (w.heap.size + 1) n S → Calls Try.prog 16 #[.pointer (some ⟨w.heap.size + 2, 0, none⟩), .int .i64 s] W fun e w' => e = .returned (.tuple #[.int .i64 ((S.O s).getD 0), .bool (S.O s).isSome]) ∧ w' = W) := fun S n s hs W h => owner_any _ _ _ n S s hs W h
  have ET : Hid (∀ (S : Tg) (n : Nat), ∀ W : World, IsTags W (w.heap.size + 2) w.heap.size (w.heap.size + 1) n S → Calls Try.prog 17 #[.pointer (some ⟨w.heap.size + 2, 0, none⟩)] W fun e w' => e = .returned (.int .i64 S.gen) ∧ w' = W) := fun S n W h => gen_any _ _ _ n S W h
  have mm : (n1 : Int) ≤ 9223372036854775807 := by have : maxLen ≤ 9223372036854775807 := by decide +kernel
                                                   omega
  have HA : Hid (IsActs w p1 n1 A1) := H1
  have ML : Hid (241 < maxLen) := by show 241 < maxLen; decide +kernel
  have CF : Hid (Cor (freshS a0) [] a0 0) := cor_fresh a0 (by omega) (by omega)
  have e1 : decide (a0 < 1) = false := by simp; omega
  have e2 : decide (4095 < a0) = false := by simp; omega
  clear H1
  go_enter Try.func3, Try.ntmps3
  go_wp2_with fail
  refine NW.out.mono ?_
  rintro e u0 ⟨rfl, h0⟩
  have M0 : Hid (Own w u0 (w.heap.size + 2) w.heap.size (w.heap.size + 1) 0 (freshS a0)) := h0
  clear h0 NW
  go_wp2_with fail
  refine (AWH.out _).mono ?_
  rintro e u1 ⟨rfl, hb⟩
  have N1 : Hid (Own w u1 (w.heap.size + 2) w.heap.size (w.heap.size + 1) 0 (freshS a0)) := M0.out.grow hb
  clear hb M0
  go_wp2_with fail
  have N2 : Hid (Own w (u1.alloc (.cells #[.int .i64 a0, .int .i64 0, .slice none 0 0] 30)) (w.heap.size + 2) w.heap.size (w.heap.size + 1) 0 (freshS a0)) := N1.out.grow (Go.Joins.below_alloc1 _ _)
  have X2 : Hid ((u1.alloc (.cells #[.int .i64 a0, .int .i64 0, .slice none 0 0] 30)).heap[u1.heap.size]? = some (.cells #[.int .i64 a0, .int .i64 0, .slice none 0 0] 30 (0, 0))) := own1 u1 _
  have lx : Hid (w.heap.size + 3 ≤ u1.heap.size) := by show _ ≤ _; have := blk_lt N1.out.1.blk; omega
  clear N1
  generalize u1.heap.size = xb at X2 lx ⊢
  go_loopw [10] (fun x W => ∃ (k : Nat) (S : Tg) (B : List Gv) (g : Int) (p : Option Addr) (c : Nat), k ≤ n1 ∧ k ≤ 80 ∧ x = .int .i64 k ∧ Hid (Cor S B a0 g) ∧ Hid (B.length ≤ k) ∧ Hid (g ≤ k) ∧ Hid (Own w W (w.heap.size + 2) w.heap.size (w.heap.size + 1) k S) ∧ Hid (IsGv W (xb + 1) p B) ∧ Hid (W.heap[xb]? = some (.cells #[.int .i64 a0, .int .i64 g, .slice p B.length c] 30 (0, 0)))) (fun x _ => 80 - (intOf x).toNat)
  case atStart => exact ⟨0, freshS a0, [], 0, none, 0, by omega, by omega, rfl, CF, Nat.le_refl _, Int.le_refl _, N2, IsGv.nil _ _ _, X2⟩
  case round =>
    obtain ⟨k, S, B, g, p, c, hk, hk6, rfl, hC, hL, hE, hM, hI, hX⟩ := hrel
    by_cases hlt : k < n1 ∧ k < 80
    · have hd : decide ((k : Int) < (n1 : Int)) = true := by simp; omega
      have hd2 : decide ((k : Int) < 80) = true := by simp; omega
      obtain ⟨b, o, rfl, lb, c0, c1, wf⟩ := HA.out k hlt.1
      generalize A1 k = a at c0 c1 wf
      obtain ⟨d, s⟩ := a
      simp only at c0 c1 wf
      have y0 : wr.cell? ⟨b, o + k * 2, none⟩ = some (.bool d) := (hM.out.2.1.cell (p := ⟨b, _, none⟩) lb).trans c0
      have y1 : wr.cell? ⟨b, o + k * 2 + 1, none⟩ = some (.int .i64 s) := (hM.out.2.1.cell (p := ⟨b, _, none⟩) lb).trans c1
      have lbw : b < wr.heap.size := Nat.lt_of_lt_of_le lb hM.out.2.1.size
      clear c0 c1
      have lxw : Hid (xb < wr.heap.size) := blk_lt hX.out
      have BX : Hid (Below wr.heap.size wr (wr.alloc (.cells #[.bool d, .int .i64 s] 32))) := Go.Joins.below_alloc1 _ _
      have MA : Hid (Own w (wr.alloc (.cells #[.bool d, .int .i64 s] 32)) (w.heap.size + 2) w.heap.size (w.heap.size + 1) k S) := hM.out.grow BX.out
      have IA : Hid (IsGv (wr.alloc (.cells #[.bool d, .int .i64 s] 32)) (xb + 1) p B) := hI.out.below BX.out
      have XA : Hid ((wr.alloc (.cells #[.bool d, .int .i64 s] 32)).heap[xb]? = some (.cells #[.int .i64 a0, .int .i64 g, .slice p B.length c] 30 (0, 0))) := (BX.out.block _ lxw.out).trans hX.out
      clear hM hI hX BX
      cases d
      · have g1 : Hid _ := GT.out S hC.out.good (by rw [hC.out.gen]; have := hE.out; omega) k (by have := ML.out; omega) s wf
        have r1 : Hid (∀ W : World, IsGv W (xb + 1) p B → xb + 1 ≤ W.heap.size → Calls Try.prog 13 #[.agg #[.int .i64 a0, .int .i64 g, .slice p B.length c], .int .i64 s] W fun e w' => ∃ p' c' B' g', e = .returned (.tuple #[.agg #[.int .i64 a0, .int .i64 g', .slice p' B'.length c'], .int .i64 (getV S s), .bool (getB S s)]) ∧ IsGv w' (xb + 1) p' B' ∧ Cor (getS S s) B' a0 g' ∧ B'.length ≤ B.length + 1 ∧ g' ≤ g + 1 ∧ Below W.heap.size W w') := fun W h hw => rget_cor hC.out (by have := hL.out; omega) (by have := hE.out; omega) (xb + 1) p c s W h hw
        generalize getV S s = v at g1 r1
        generalize getB S s = bb at g1 r1
        generalize getS S s = T2 at g1 r1
        obtain ⟨n, hn⟩ : ∃ n, B.length = n := ⟨_, rfl⟩
        have HN : Hid (B.length = n) := hn
        rw [hn] at r1 XA hL
        clear hn
        go_wp2_with fail
        refine (g1.out _ MA.out.1).mono ?_
        rintro e u1 ⟨rfl, h1, h2⟩
        have M1 : Hid (Own w u1 (w.heap.size + 2) w.heap.size (w.heap.size + 1) (k + 1) T2) := MA.out.next h1 h2
        have I1 : Hid (IsGv u1 (xb + 1) p B) := gv_kp IA.out h2 (by have := lx.out; omega) (by have := lx.out; omega) (by have := lx.out; omega)
        have X1 : Hid (u1.heap[xb]? = some (.cells #[.int .i64 a0, .int .i64 g, .slice p n c] 30 (0, 0))) := (h2.block _ (blk_lt XA.out) (by have := lx.out; omega) (by have := lx.out; omega) (by have := lx.out; omega)).trans XA.out
        have A1' : Hid (u1.cell? ⟨wr.heap.size, 1, none⟩ = some (.int .i64 s)) := (h2.cell (by rw [World.size_alloc]; omega) (by have := lx.out; have := lxw.out; omega) (by have := lx.out; have := lxw.out; omega) (by have := lx.out; have := lxw.out; omega)).trans (by simp)
        have la1 : wr.heap.size < u1.heap.size := Nat.lt_of_lt_of_le (by rw [World.size_alloc]; omega) h2.size
        clear h1 h2 g1 MA IA XA y0 y1
        obtain ⟨z0, hz0⟩ : ∃ z0, wr.heap.size = z0 := ⟨_, rfl⟩
        rw [hz0] at lxw A1' la1 ⊢
        have lz : Hid (xb < z0) := lxw.out
        clear hz0 lxw
        have a1' := A1'.out
        have nzx : ¬ z0 = xb := by have := lz.out; omega
        have nxz : ¬ xb = z0 := by have := lz.out; omega
        have lx1 : xb < u1.heap.size := blk_lt X1.out
        have x0u1 : u1.cell? ⟨xb, 0, none⟩ = some (.int .i64 a0) := Go.Joins.cell_of_block X1.out 0
        have x1u1 : u1.cell? ⟨xb, 1, none⟩ = some (.int .i64 g) := Go.Joins.cell_of_block X1.out 1
        have x2u1 : u1.cell? ⟨xb, 2, none⟩ = some (.slice p n c) := Go.Joins.cell_of_block X1.out 2
        go_wp2_with fail
        refine (r1.out _ I1.out (by omega)).mono ?_
        rintro e u2 ⟨p2, c2, B2, g2, rfl, i2, cc2, l2, e2', hb2⟩
        have C2 : Hid (Cor T2 B2 a0 g2) := cc2
        have L2 : Hid (B2.length ≤ k + 1) := by show _ ≤ _; have := hL.out; omega
        have E2 : Hid (g2 ≤ ((k + 1 : Nat) : Int)) := by show _ ≤ _; have := hE.out; omega
        obtain ⟨n2, hn2⟩ : ∃ n2, B2.length = n2 := ⟨_, rfl⟩
        have HN2 : Hid (B2.length = n2) := hn2
        have t0 : Hid _ := TT.out T2 (k + 1) s wf
        rw [cor_pos C2.out s] at t0
        have f1 : Hid (∀ W : World, IsGv W (xb + 1) p2 B2 → Calls Try.prog 15 #[.agg #[.int .i64 a0, .int .i64 g2, .slice p2 B2.length c2], .int .i64 s] W fun e w' => e = .returned (.int .i64 (findV s B2 0)) ∧ Below W.heap.size W w') := fun W h => findV_any (xb + 1) a0 g2 p2 c2 B2 (by have := L2.out; omega) s W h
        rw [cor_find C2.out s, HN2.out] at f1
        have v1 : Hid _ := ET.out T2 (k + 1)
        rw [C2.out.gen] at v1
        have o0 : Hid _ := OT.out T2 (k + 1) a2 w2
        generalize (T2.T s).getD 0 = z at t0 f1
        obtain ⟨zb, hzb⟩ : ∃ zb, decide (0 < z) = zb := ⟨_, rfl⟩
        rw [hzb] at t0
        have t1 : Hid _ := t0
        clear t0
        rw [hn2]
        clear hn2
        have M2 : Hid (Own w u2 (w.heap.size + 2) w.heap.size (w.heap.size + 1) (k + 1) T2) := M1.out.grow hb2
        have I2 : Hid (IsGv u2 (xb + 1) p2 B2) := i2
        have X2 : Hid (u2.heap[xb]? = some (.cells #[.int .i64 a0, .int .i64 g, .slice p n c] 30 (0, 0))) := (hb2.block _ lx1).trans X1.out
        have A2' : Hid (u2.cell? ⟨z0, 1, none⟩ = some (.int .i64 s)) := (hb2.cell (p := ⟨z0, 1, none⟩) la1).trans a1'
        have la2 : z0 < u2.heap.size := Nat.lt_of_lt_of_le la1 hb2.size
        have lx2 : xb < u2.heap.size := Nat.lt_of_lt_of_le lx1 hb2.size
        have x0u2 : u2.cell? ⟨xb, 0, none⟩ = some (.int .i64 a0) := Go.Joins.cell_of_block X2.out 0
        have f0u2 : u2.frozen? ⟨xb, 0, none⟩ = false := Go.Joins.unfrozen_of_block X2.out 0
        have x1u2 : u2.cell? ⟨xb, 1, none⟩ = some (.int .i64 g) := Go.Joins.cell_of_block X2.out 1
        have f1u2 : u2.frozen? ⟨xb, 1, none⟩ = false := Go.Joins.unfrozen_of_block X2.out 1
        have x2u2 : u2.cell? ⟨xb, 2, none⟩ = some (.slice p n c) := Go.Joins.cell_of_block X2.out 2
        have f2u2 : u2.frozen? ⟨xb, 2, none⟩ = false := Go.Joins.unfrozen_of_block X2.out 2
        have a2' : u2.cell? ⟨z0, 1, none⟩ = some (.int .i64 s) := A2'.out
        clear i2 cc2 l2 e2' hb2 r1 GT DT TT OT ET HA hC hE hL M1 I1 X1 A1' a1' x0u1 x1u1 x2u1
        have M4 : Hid (Own w (((u2.setCell ⟨xb, 0, none⟩ (.int .i64 a0)).setCell ⟨xb, 1, none⟩ (.int .i64 g2)).setCell ⟨xb, 2, none⟩ (.slice p2 n2 c2)) (w.heap.size + 2) w.heap.size (w.heap.size + 1) (k + 1) T2) := own_sc (own_sc (own_sc M2.out lx.out) lx.out) lx.out
        have I4 : Hid (IsGv (((u2.setCell ⟨xb, 0, none⟩ (.int .i64 a0)).setCell ⟨xb, 1, none⟩ (.int .i64 g2)).setCell ⟨xb, 2, none⟩ (.slice p2 n2 c2)) (xb + 1) p2 B2) := gv_sc (gv_sc (gv_sc I2.out (by omega)) (by omega)) (by omega)
        have X4 : Hid ((((u2.setCell ⟨xb, 0, none⟩ (.int .i64 a0)).setCell ⟨xb, 1, none⟩ (.int .i64 g2)).setCell ⟨xb, 2, none⟩ (.slice p2 n2 c2)).heap[xb]? = some (.cells #[.int .i64 a0, .int .i64 g2, .slice p2 n2 c2] 30 (0, 0))) := Go.Joins.block_setCell (Go.Joins.block_setCell (Go.Joins.block_setCell X2.out _) _) _
        have A4 : Hid ((((u2.setCell ⟨xb, 0, none⟩ (.int .i64 a0)).setCell ⟨xb, 1, none⟩ (.int .i64 g2)).setCell ⟨xb, 2, none⟩ (.slice p2 n2 c2)).cell? ⟨z0, 1, none⟩ = some (.int .i64 s)) := by
          show _ = _
          rw [World.cell?_of_block (w := u2) (a := ⟨z0, 1, none⟩) (by
            show (((u2.setCell ⟨xb, 0, none⟩ (.int .i64 a0)).setCell ⟨xb, 1, none⟩ (.int .i64 g2)).setCell ⟨xb, 2, none⟩ (.slice p2 n2 c2)).heap[z0]? = u2.heap[z0]?
            rw [Below.heap_setCell _ _ _ _ (by show z0 ≠ xb; have := lz.out; omega), Below.heap_setCell _ _ _ _ (by show z0 ≠ xb; have := lz.out; omega), Below.heap_setCell _ _ _ _ (by show z0 ≠ xb; have := lz.out; omega)])]
          exact A2'.out
        have la4 : Hid (z0 < (((u2.setCell ⟨xb, 0, none⟩ (.int .i64 a0)).setCell ⟨xb, 1, none⟩ (.int .i64 g2)).setCell ⟨xb, 2, none⟩ (.slice p2 n2 c2)).heap.size) := by show _ < _; simp only [World.size_setCell]; exact la2
        have M3 : Hid (Own w ((((u2.setCell ⟨xb, 0, none⟩ (.int .i64 a0)).setCell ⟨xb, 1, none⟩ (.int .i64 g2)).setCell ⟨xb, 2, none⟩ (.slice p2 n2 c2)).alloc (.cells #[.int .i64 a0, .int .i64 g2, .slice p2 n2 c2] 30)) (w.heap.size + 2) w.heap.size (w.heap.size + 1) (k + 1) T2) := M4.out.grow (Go.Joins.below_alloc1 _ _)
        have I3 : Hid (IsGv ((((u2.setCell ⟨xb, 0, none⟩ (.int .i64 a0)).setCell ⟨xb, 1, none⟩ (.int .i64 g2)).setCell ⟨xb, 2, none⟩ (.slice p2 n2 c2)).alloc (.cells #[.int .i64 a0, .int .i64 g2, .slice p2 n2 c2] 30)) (xb + 1) p2 B2) := I4.out.below (Go.Joins.below_alloc1 _ _)
        have X3 : Hid (((((u2.setCell ⟨xb, 0, none⟩ (.int .i64 a0)).setCell ⟨xb, 1, none⟩ (.int .i64 g2)).setCell ⟨xb, 2, none⟩ (.slice p2 n2 c2)).alloc (.cells #[.int .i64 a0, .int .i64 g2, .slice p2 n2 c2] 30)).heap[xb]? = some (.cells #[.int .i64 a0, .int .i64 g2, .slice p2 n2 c2] 30 (0, 0))) := ((Go.Joins.below_alloc1 _ _).block _ (blk_lt X4.out)).trans X4.out
        have A3 : Hid (((((u2.setCell ⟨xb, 0, none⟩ (.int .i64 a0)).setCell ⟨xb, 1, none⟩ (.int .i64 g2)).setCell ⟨xb, 2, none⟩ (.slice p2 n2 c2)).alloc (.cells #[.int .i64 a0, .int .i64 g2, .slice p2 n2 c2] 30)).cell? ⟨z0, 1, none⟩ = some (.int .i64 s)) := ((Go.Joins.below_alloc1 _ _).cell (p := ⟨z0, 1, none⟩) la4.out).trans A4.out
        have la3 : Hid (z0 < ((((u2.setCell ⟨xb, 0, none⟩ (.int .i64 a0)).setCell ⟨xb, 1, none⟩ (.int .i64 g2)).setCell ⟨xb, 2, none⟩ (.slice p2 n2 c2)).alloc (.cells #[.int .i64 a0, .int .i64 g2, .slice p2 n2 c2] 30)).heap.size) := by show _ < _; rw [World.size_alloc]; have := la4.out; omega
        clear M2 I2 X2 A2' M4 I4 X4 A4 la4
        cases bb
        · go_wp2_with fail
          generalize ((((u2.setCell ⟨xb, 0, none⟩ (.int .i64 a0)).setCell ⟨xb, 1, none⟩ (.int .i64 g2)).setCell ⟨xb, 2, none⟩ (.slice p2 n2 c2)).alloc (.cells #[.int .i64 a0, .int .i64 g2, .slice p2 n2 c2] 30)) = U at M3 I3 X3 A3 la3 ⊢
          refine (t1.out _ M3.out.1).mono ?_
          rintro e u5 ⟨rfl, hu⟩
          have hu5 := hu.symm
          subst hu5
          clear hu
          have A3' := A3.out
          have la3' := la3.out
          have x0U : U.cell? ⟨xb, 0, none⟩ = some (.int .i64 a0) := Go.Joins.cell_of_block X3.out 0
          have x1U : U.cell? ⟨xb, 1, none⟩ = some (.int .i64 g2) := Go.Joins.cell_of_block X3.out 1
          have x2U : U.cell? ⟨xb, 2, none⟩ = some (.slice p2 n2 c2) := Go.Joins.cell_of_block X3.out 2
          go_wp2_with fail
          refine (f1.out _ I3.out).mono ?_
          rintro e u6 ⟨rfl, hb6⟩
          have M6 : Hid (Own w u6 (w.heap.size + 2) w.heap.size (w.heap.size + 1) (k + 1) T2) := M3.out.grow hb6
          have I6 : Hid (IsGv u6 (xb + 1) p2 B2) := I3.out.below hb6
          have X6 : Hid (u6.heap[xb]? = some (.cells #[.int .i64 a0, .int .i64 g2, .slice p2 n2 c2] 30 (0, 0))) := (hb6.block _ (blk_lt X3.out)).trans X3.out
          clear hb6 A3 A3' la3 la3' x0U x1U x2U M3 I3 X3
          have lx6 : xb < u6.heap.size := blk_lt X6.out
          have x0u6 : u6.cell? ⟨xb, 0, none⟩ = some (.int .i64 a0) := Go.Joins.cell_of_block X6.out 0
          have x1u6 : u6.cell? ⟨xb, 1, none⟩ = some (.int .i64 g2) := Go.Joins.cell_of_block X6.out 1
          have x2u6 : u6.cell? ⟨xb, 2, none⟩ = some (.slice p2 n2 c2) := Go.Joins.cell_of_block X6.out 2
          by_cases ta : a2 < 1
          · have oo := cor_nobody C2.out a2 (Or.inl ta)
            have td : decide (1 ≤ a2) = false := by simp; omega
            rw [oo] at o0
            have o1 : Hid (∀ W : World, IsTags W (w.heap.size + 2) w.heap.size (w.heap.size + 1) (k + 1) T2 → Calls Try.prog 16 #[.pointer (some ⟨w.heap.size + 2, 0, none⟩), .int .i64 a2] W fun e w' => e = .returned (.tuple #[.int .i64 0, .bool false]) ∧ w' = W) := o0
            clear o0 oo
            go_wp2_with fail
            refine (o1.out _ M6.out.1).mono ?_
            rintro e u7 ⟨rfl, hu⟩
            have hu7 := hu.symm
            subst hu7
            clear hu
            go_wp2_with fail
            go_quiet ((go_at_call 17; refine Calls.quiet_of_same (v1.out _ (M6.out.1.kept (fun _ _ _ => rfl)))))
            go_wp2_with fail
            go_roundw
            case rel => exact ⟨k + 1, T2, B2, g2, p2, c2, by omega, by omega, by go_num, C2, L2, E2, ⟨M6.out.1.kept (fun _ _ _ => rfl), ⟨M6.out.2.1.os, M6.out.2.1.tape, M6.out.2.1.output, M6.out.2.1.size, M6.out.2.1.block⟩, M6.out.2.2⟩, I6.out, (by show _ = _; rw [HN2.out]; exact X6.out)⟩
            case measure => simp [intOf]; omega
          have td : decide (1 ≤ a2) = true := by simp; omega
          by_cases tb : (n2 : Int) < a2
          · have oo := cor_nobody C2.out a2 (Or.inr (by rw [HN2.out]; exact tb))
            have te : decide (a2 ≤ (n2 : Int)) = false := by simp; omega
            rw [oo] at o0
            have o1 : Hid (∀ W : World, IsTags W (w.heap.size + 2) w.heap.size (w.heap.size + 1) (k + 1) T2 → Calls Try.prog 16 #[.pointer (some ⟨w.heap.size + 2, 0, none⟩), .int .i64 a2] W fun e w' => e = .returned (.tuple #[.int .i64 0, .bool false]) ∧ w' = W) := o0
            clear o0 oo
            go_wp2_with fail
            refine (o1.out _ M6.out.1).mono ?_
            rintro e u7 ⟨rfl, hu⟩
            have hu7 := hu.symm
            subst hu7
            clear hu
            go_wp2_with fail
            go_quiet ((go_at_call 17; refine Calls.quiet_of_same (v1.out _ (M6.out.1.kept (fun _ _ _ => rfl)))))
            go_wp2_with fail
            go_roundw
            case rel => exact ⟨k + 1, T2, B2, g2, p2, c2, by omega, by omega, by go_num, C2, L2, E2, ⟨M6.out.1.kept (fun _ _ _ => rfl), ⟨M6.out.2.1.os, M6.out.2.1.tape, M6.out.2.1.output, M6.out.2.1.size, M6.out.2.1.block⟩, M6.out.2.2⟩, I6.out, (by show _ = _; rw [HN2.out]; exact X6.out)⟩
            case measure => simp [intOf]; omega
          have te : decide (a2 ≤ (n2 : Int)) = true := by simp; omega
          obtain ⟨i, hi⟩ : ∃ i : Nat, a2 = (i : Int) + 1 := ⟨(a2 - 1).toNat, by omega⟩
          have il : i < n2 := by omega
          have il2 : (i : Int) < (n2 : Int) := by omega
          have il3 : (0 : Int) ≤ (i : Int) := by omega
          have il4 : (i : Int) ≤ 100 := by have := L2.out; have := HN2.out; omega
          obtain ⟨oa, ob⟩ := cor_owner C2.out i (by rw [HN2.out]; exact il)
          obtain ⟨g', rfl, g1', g2', gc⟩ := I6.out i (by rw [HN2.out]; exact il)
          rw [← hi] at oa ob
          generalize B2.getD i Gv.zero = bx at gc oa ob
          obtain ⟨bs, bh⟩ := bx
          simp only at oa ob
          have y6 : u6.cell? ⟨g', i * 2, none⟩ = some (.int .i64 bs) := gc 0 _ rfl
          have y7 : u6.cell? ⟨g', i * 2 + 1, none⟩ = some (.bool bh) := gc 1 _ rfl
          clear gc g1' ta tb
          have sub1 : a2 - 1 = (i : Int) := by omega
          have sub2 : IntKind.i64.wrap (a2 - 1) = (i : Int) := by rw [IntKind.wrap_i64]; omega
          have HI : Hid (a2 = (i : Int) + 1) := hi
          clear hi
          cases bh
          · have oo := ob rfl
            rw [oo] at o0
            have o1 : Hid (∀ W : World, IsTags W (w.heap.size + 2) w.heap.size (w.heap.size + 1) (k + 1) T2 → Calls Try.prog 16 #[.pointer (some ⟨w.heap.size + 2, 0, none⟩), .int .i64 a2] W fun e w' => e = .returned (.tuple #[.int .i64 0, .bool false]) ∧ w' = W) := o0
            clear o0 oo oa ob
            go_wp2_with fail
            refine (o1.out _ M6.out.1).mono ?_
            rintro e u7 ⟨rfl, hu⟩
            have hu7 := hu.symm
            subst hu7
            clear hu
            go_wp2_with fail
            go_quiet ((go_at_call 17; refine Calls.quiet_of_same (v1.out _ (M6.out.1.kept (fun _ _ _ => rfl)))))
            go_wp2_with fail
            go_roundw
            case rel => exact ⟨k + 1, T2, B2, g2, (some ⟨g', 0, none⟩), c2, by omega, by omega, by go_num, C2, L2, E2, ⟨M6.out.1.kept (fun _ _ _ => rfl), ⟨M6.out.2.1.os, M6.out.2.1.tape, M6.out.2.1.output, M6.out.2.1.size, M6.out.2.1.block⟩, M6.out.2.2⟩, I6.out, (by show _ = _; rw [HN2.out]; exact X6.out)⟩
            case measure => simp [intOf]; omega
          · have oo := oa rfl
            rw [oo] at o0
            have o1 : Hid (∀ W : World, IsTags W (w.heap.size + 2) w.heap.size (w.heap.size + 1) (k + 1) T2 → Calls Try.prog 16 #[.pointer (some ⟨w.heap.size + 2, 0, none⟩), .int .i64 a2] W fun e w' => e = .returned (.tuple #[.int .i64 bs, .bool true]) ∧ w' = W) := o0
            clear o0 oo oa ob
            go_wp2_with fail
            refine (o1.out _ M6.out.1).mono ?_
            rintro e u7 ⟨rfl, hu⟩
            have hu7 := hu.symm
            subst hu7
            clear hu
            go_wp2_with fail
            go_quiet ((go_at_call 17; refine Calls.quiet_of_same (v1.out _ (M6.out.1.kept (fun _ _ _ => rfl)))))
            go_wp2_with fail
            go_roundw
            case rel => exact ⟨k + 1, T2, B2, g2, (some ⟨g', 0, none⟩), c2, by omega, by omega, by go_num, C2, L2, E2, ⟨M6.out.1.kept (fun _ _ _ => rfl), ⟨M6.out.2.1.os, M6.out.2.1.tape, M6.out.2.1.output, M6.out.2.1.size, M6.out.2.1.block⟩, M6.out.2.2⟩, I6.out, (by show _ = _; rw [HN2.out]; exact X6.out)⟩
            case measure => simp [intOf]; omega
        · go_wp2_with fail
          generalize ((((u2.setCell ⟨xb, 0, none⟩ (.int .i64 a0)).setCell ⟨xb, 1, none⟩ (.int .i64 g2)).setCell ⟨xb, 2, none⟩ (.slice p2 n2 c2)).alloc (.cells #[.int .i64 a0, .int .i64 g2, .slice p2 n2 c2] 30)) = U at M3 I3 X3 A3 la3 ⊢
          refine (t1.out _ M3.out.1).mono ?_
          rintro e u5 ⟨rfl, hu⟩
          have hu5 := hu.symm
          subst hu5
          clear hu
          have A3' := A3.out
          have la3' := la3.out
          have x0U : U.cell? ⟨xb, 0, none⟩ = some (.int .i64 a0) := Go.Joins.cell_of_block X3.out 0
          have x1U : U.cell? ⟨xb, 1, none⟩ = some (.int .i64 g2) := Go.Joins.cell_of_block X3.out 1
          have x2U : U.cell? ⟨xb, 2, none⟩ = some (.slice p2 n2 c2) := Go.Joins.cell_of_block X3.out 2
          go_wp2_with fail
          refine (f1.out _ I3.out).mono ?_
          rintro e u6 ⟨rfl, hb6⟩
          have M6 : Hid (Own w u6 (w.heap.size + 2) w.heap.size (w.heap.size + 1) (k + 1) T2) := M3.out.grow hb6
          have I6 : Hid (IsGv u6 (xb + 1) p2 B2) := I3.out.below hb6
          have X6 : Hid (u6.heap[xb]? = some (.cells #[.int .i64 a0, .int .i64 g2, .slice p2 n2 c2] 30 (0, 0))) := (hb6.block _ (blk_lt X3.out)).trans X3.out
          clear hb6 A3 A3' la3 la3' x0U x1U x2U M3 I3 X3
          have lx6 : xb < u6.heap.size := blk_lt X6.out
          have x0u6 : u6.cell? ⟨xb, 0, none⟩ = some (.int .i64 a0) := Go.Joins.cell_of_block X6.out 0
          have x1u6 : u6.cell? ⟨xb, 1, none⟩ = some (.int .i64 g2) := Go.Joins.cell_of_block X6.out 1
          have x2u6 : u6.cell? ⟨xb, 2, none⟩ = some (.slice p2 n2 c2) := Go.Joins.cell_of_block X6.out 2
          by_cases ta : a2 < 1
          · have oo := cor_nobody C2.out a2 (Or.inl ta)
            have td : decide (1 ≤ a2) = false := by simp; omega
            rw [oo] at o0
            have o1 : Hid (∀ W : World, IsTags W (w.heap.size + 2) w.heap.size (w.heap.size + 1) (k + 1) T2 → Calls Try.prog 16 #[.pointer (some ⟨w.heap.size + 2, 0, none⟩), .int .i64 a2] W fun e w' => e = .returned (.tuple #[.int .i64 0, .bool false]) ∧ w' = W) := o0
            clear o0 oo
            go_wp2_with fail
            refine (o1.out _ M6.out.1).mono ?_
            rintro e u7 ⟨rfl, hu⟩
            have hu7 := hu.symm
            subst hu7
            clear hu
            go_wp2_with fail
            go_quiet ((go_at_call 17; refine Calls.quiet_of_same (v1.out _ (M6.out.1.kept (fun _ _ _ => rfl)))))
            go_wp2_with fail
            go_roundw
            case rel => exact ⟨k + 1, T2, B2, g2, p2, c2, by omega, by omega, by go_num, C2, L2, E2, ⟨M6.out.1.kept (fun _ _ _ => rfl), ⟨M6.out.2.1.os, M6.out.2.1.tape, M6.out.2.1.output, M6.out.2.1.size, M6.out.2.1.block⟩, M6.out.2.2⟩, I6.out, (by show _ = _; rw [HN2.out]; exact X6.out)⟩
            case measure => simp [intOf]; omega
          have td : decide (1 ≤ a2) = true := by simp; omega
          by_cases tb : (n2 : Int) < a2
          · have oo := cor_nobody C2.out a2 (Or.inr (by rw [HN2.out]; exact tb))
            have te : decide (a2 ≤ (n2 : Int)) = false := by simp; omega
            rw [oo] at o0
            have o1 : Hid (∀ W : World, IsTags W (w.heap.size + 2) w.heap.size (w.heap.size + 1) (k + 1) T2 → Calls Try.prog 16 #[.pointer (some ⟨w.heap.size + 2, 0, none⟩), .int .i64 a2] W fun e w' => e = .returned (.tuple #[.int .i64 0, .bool false]) ∧ w' = W) := o0
            clear o0 oo
            go_wp2_with fail
            refine (o1.out _ M6.out.1).mono ?_
            rintro e u7 ⟨rfl, hu⟩
            have hu7 := hu.symm
            subst hu7
            clear hu
            go_wp2_with fail
            go_quiet ((go_at_call 17; refine Calls.quiet_of_same (v1.out _ (M6.out.1.kept (fun _ _ _ => rfl)))))
            go_wp2_with fail
            go_roundw
            case rel => exact ⟨k + 1, T2, B2, g2, p2, c2, by omega, by omega, by go_num, C2, L2, E2, ⟨M6.out.1.kept (fun _ _ _ => rfl), ⟨M6.out.2.1.os, M6.out.2.1.tape, M6.out.2.1.output, M6.out.2.1.size, M6.out.2.1.block⟩, M6.out.2.2⟩, I6.out, (by show _ = _; rw [HN2.out]; exact X6.out)⟩
            case measure => simp [intOf]; omega
          have te : decide (a2 ≤ (n2 : Int)) = true := by simp; omega
          obtain ⟨i, hi⟩ : ∃ i : Nat, a2 = (i : Int) + 1 := ⟨(a2 - 1).toNat, by omega⟩
          have il : i < n2 := by omega
          have il2 : (i : Int) < (n2 : Int) := by omega
          have il3 : (0 : Int) ≤ (i : Int) := by omega
          have il4 : (i : Int) ≤ 100 := by have := L2.out; have := HN2.out; omega
          obtain ⟨oa, ob⟩ := cor_owner C2.out i (by rw [HN2.out]; exact il)
          obtain ⟨g', rfl, g1', g2', gc⟩ := I6.out i (by rw [HN2.out]; exact il)
          rw [← hi] at oa ob
          generalize B2.getD i Gv.zero = bx at gc oa ob
          obtain ⟨bs, bh⟩ := bx
          simp only at oa ob
          have y6 : u6.cell? ⟨g', i * 2, none⟩ = some (.int .i64 bs) := gc 0 _ rfl
          have y7 : u6.cell? ⟨g', i * 2 + 1, none⟩ = some (.bool bh) := gc 1 _ rfl
          clear gc g1' ta tb
          have sub1 : a2 - 1 = (i : Int) := by omega
          have sub2 : IntKind.i64.wrap (a2 - 1) = (i : Int) := by rw [IntKind.wrap_i64]; omega
          have HI : Hid (a2 = (i : Int) + 1) := hi
          clear hi
          cases bh
          · have oo := ob rfl
            rw [oo] at o0
            have o1 : Hid (∀ W : World, IsTags W (w.heap.size + 2) w.heap.size (w.heap.size + 1) (k + 1) T2 → Calls Try.prog 16 #[.pointer (some ⟨w.heap.size + 2, 0, none⟩), .int .i64 a2] W fun e w' => e = .returned (.tuple #[.int .i64 0, .bool false]) ∧ w' = W) := o0
            clear o0 oo oa ob
            go_wp2_with fail
            refine (o1.out _ M6.out.1).mono ?_
            rintro e u7 ⟨rfl, hu⟩
            have hu7 := hu.symm
            subst hu7
            clear hu
            go_wp2_with fail
            go_quiet ((go_at_call 17; refine Calls.quiet_of_same (v1.out _ (M6.out.1.kept (fun _ _ _ => rfl)))))
            go_wp2_with fail
            go_roundw
            case rel => exact ⟨k + 1, T2, B2, g2, (some ⟨g', 0, none⟩), c2, by omega, by omega, by go_num, C2, L2, E2, ⟨M6.out.1.kept (fun _ _ _ => rfl), ⟨M6.out.2.1.os, M6.out.2.1.tape, M6.out.2.1.output, M6.out.2.1.size, M6.out.2.1.block⟩, M6.out.2.2⟩, I6.out, (by show _ = _; rw [HN2.out]; exact X6.out)⟩
            case measure => simp [intOf]; omega
          · have oo := oa rfl
            rw [oo] at o0
            have o1 : Hid (∀ W : World, IsTags W (w.heap.size + 2) w.heap.size (w.heap.size + 1) (k + 1) T2 → Calls Try.prog 16 #[.pointer (some ⟨w.heap.size + 2, 0, none⟩), .int .i64 a2] W fun e w' => e = .returned (.tuple #[.int .i64 bs, .bool true]) ∧ w' = W) := o0
            clear o0 oo oa ob
            go_wp2_with fail
            refine (o1.out _ M6.out.1).mono ?_
            rintro e u7 ⟨rfl, hu⟩
            have hu7 := hu.symm
            subst hu7
            clear hu
            go_wp2_with fail
            go_quiet ((go_at_call 17; refine Calls.quiet_of_same (v1.out _ (M6.out.1.kept (fun _ _ _ => rfl)))))
            go_wp2_with fail
            go_roundw
            case rel => exact ⟨k + 1, T2, B2, g2, (some ⟨g', 0, none⟩), c2, by omega, by omega, by go_num, C2, L2, E2, ⟨M6.out.1.kept (fun _ _ _ => rfl), ⟨M6.out.2.1.os, M6.out.2.1.tape, M6.out.2.1.output, M6.out.2.1.size, M6.out.2.1.block⟩, M6.out.2.2⟩, I6.out, (by show _ = _; rw [HN2.out]; exact X6.out)⟩
            case measure => simp [intOf]; omega
      · have g1 : Hid _ := DT.out S hC.out.good k s wf
        have r1 : Hid (∀ W : World, IsGv W (xb + 1) p B → xb + 1 ≤ W.heap.size → Calls Try.prog 11 #[.agg #[.int .i64 a0, .int .i64 g, .slice p B.length c], .int .i64 s] W fun e w' => ∃ p' c' B', e = .returned (.agg #[.int .i64 a0, .int .i64 g, .slice p' B'.length c']) ∧ IsGv w' (xb + 1) p' B' ∧ Cor (dropS S s) B' a0 g ∧ B'.length = B.length ∧ Below W.heap.size W w') := fun W h hw => rdrop_cor hC.out (by have := hL.out; omega) (xb + 1) p c s W h hw
        generalize dropS S s = T2 at g1 r1
        obtain ⟨n, hn⟩ : ∃ n, B.length = n := ⟨_, rfl⟩
        have HN : Hid (B.length = n) := hn
        rw [hn] at r1 XA hL
        clear hn
        go_wp2_with fail
        refine (g1.out _ MA.out.1).mono ?_
        rintro e u1 ⟨rfl, h1, h2⟩
        have M1 : Hid (Own w u1 (w.heap.size + 2) w.heap.size (w.heap.size + 1) (k + 1) T2) := MA.out.next (h1.mono (Nat.le_succ _)) h2
        have I1 : Hid (IsGv u1 (xb + 1) p B) := gv_kp IA.out h2 (by have := lx.out; omega) (by have := lx.out; omega) (by have := lx.out; omega)
        have X1 : Hid (u1.heap[xb]? = some (.cells #[.int .i64 a0, .int .i64 g, .slice p n c] 30 (0, 0))) := (h2.block _ (blk_lt XA.out) (by have := lx.out; omega) (by have := lx.out; omega) (by have := lx.out; omega)).trans XA.out
        have A1' : Hid (u1.cell? ⟨wr.heap.size, 1, none⟩ = some (.int .i64 s)) := (h2.cell (by rw [World.size_alloc]; omega) (by have := lx.out; have := lxw.out; omega) (by have := lx.out; have := lxw.out; omega) (by have := lx.out; have := lxw.out; omega)).trans (by simp)
        have la1 : wr.heap.size < u1.heap.size := Nat.lt_of_lt_of_le (by rw [World.size_alloc]; omega) h2.size
        clear h1 h2 g1 MA IA XA y0 y1
        obtain ⟨z0, hz0⟩ : ∃ z0, wr.heap.size = z0 := ⟨_, rfl⟩
        rw [hz0] at lxw A1' la1 ⊢
        have lz : Hid (xb < z0) := lxw.out
        clear hz0 lxw
        have a1' := A1'.out
        have nzx : ¬ z0 = xb := by have := lz.out; omega
        have nxz : ¬ xb = z0 := by have := lz.out; omega
        have lx1 : xb < u1.heap.size := blk_lt X1.out
        have x0u1 : u1.cell? ⟨xb, 0, none⟩ = some (.int .i64 a0) := Go.Joins.cell_of_block X1.out 0
        have x1u1 : u1.cell? ⟨xb, 1, none⟩ = some (.int .i64 g) := Go.Joins.cell_of_block X1.out 1
        have x2u1 : u1.cell? ⟨xb, 2, none⟩ = some (.slice p n c) := Go.Joins.cell_of_block X1.out 2
        go_wp2_with fail
        refine (r1.out _ I1.out (by omega)).mono ?_
        rintro e u2 ⟨p2, c2, B2, rfl, i2, cc2, l2, hb2⟩
        obtain ⟨g2, hg2⟩ : ∃ g2, g = g2 := ⟨_, rfl⟩
        have C2 : Hid (Cor T2 B2 a0 g2) := by rw [← hg2]; exact cc2
        have L2 : Hid (B2.length ≤ k + 1) := by show _ ≤ _; have := hL.out; omega
        have E2 : Hid (g2 ≤ ((k + 1 : Nat) : Int)) := by show _ ≤ _; rw [← hg2]; have := hE.out; omega
        obtain ⟨n2, hn2⟩ : ∃ n2, B2.length = n2 := ⟨_, rfl⟩
        have HN2 : Hid (B2.length = n2) := hn2
        have t0 : Hid _ := TT.out T2 (k + 1) s wf
        rw [cor_pos C2.out s] at t0
        have f1 : Hid (∀ W : World, IsGv W (xb + 1) p2 B2 → Calls Try.prog 15 #[.agg #[.int .i64 a0, .int .i64 g2, .slice p2 B2.length c2], .int .i64 s] W fun e w' => e = .returned (.int .i64 (findV s B2 0)) ∧ Below W.heap.size W w') := fun W h => findV_any (xb + 1) a0 g2 p2 c2 B2 (by have := L2.out; omega) s W h
        rw [cor_find C2.out s, HN2.out] at f1
        have v1 : Hid _ := ET.out T2 (k + 1)
        rw [C2.out.gen] at v1
        have o0 : Hid _ := OT.out T2 (k + 1) a2 w2
        generalize (T2.T s).getD 0 = z at t0 f1
        obtain ⟨zb, hzb⟩ : ∃ zb, decide (0 < z) = zb := ⟨_, rfl⟩
        rw [hzb] at t0
        have t1 : Hid _ := t0
        clear t0
        rw [hn2]
        clear hn2
        subst hg2
        have M2 : Hid (Own w u2 (w.heap.size + 2) w.heap.size (w.heap.size + 1) (k + 1) T2) := M1.out.grow hb2
        have I2 : Hid (IsGv u2 (xb + 1) p2 B2) := i2
        have X2 : Hid (u2.heap[xb]? = some (.cells #[.int .i64 a0, .int .i64 g, .slice p n c] 30 (0, 0))) := (hb2.block _ lx1).trans X1.out
        have A2' : Hid (u2.cell? ⟨z0, 1, none⟩ = some (.int .i64 s)) := (hb2.cell (p := ⟨z0, 1, none⟩) la1).trans a1'
        have la2 : z0 < u2.heap.size := Nat.lt_of_lt_of_le la1 hb2.size
        have lx2 : xb < u2.heap.size := Nat.lt_of_lt_of_le lx1 hb2.size
        have x0u2 : u2.cell? ⟨xb, 0, none⟩ = some (.int .i64 a0) := Go.Joins.cell_of_block X2.out 0
        have f0u2 : u2.frozen? ⟨xb, 0, none⟩ = false := Go.Joins.unfrozen_of_block X2.out 0
        have x1u2 : u2.cell? ⟨xb, 1, none⟩ = some (.int .i64 g) := Go.Joins.cell_of_block X2.out 1
        have f1u2 : u2.frozen? ⟨xb, 1, none⟩ = false := Go.Joins.unfrozen_of_block X2.out 1
        have x2u2 : u2.cell? ⟨xb, 2, none⟩ = some (.slice p n c) := Go.Joins.cell_of_block X2.out 2
        have f2u2 : u2.frozen? ⟨xb, 2, none⟩ = false := Go.Joins.unfrozen_of_block X2.out 2
        have a2' : u2.cell? ⟨z0, 1, none⟩ = some (.int .i64 s) := A2'.out
        clear i2 cc2 l2 hb2 r1 GT DT TT OT ET HA hC hE hL M1 I1 X1 A1' a1' x0u1 x1u1 x2u1
        have M3 : Hid (Own w (((u2.setCell ⟨xb, 0, none⟩ (.int .i64 a0)).setCell ⟨xb, 1, none⟩ (.int .i64 g)).setCell ⟨xb, 2, none⟩ (.slice p2 n2 c2)) (w.heap.size + 2) w.heap.size (w.heap.size + 1) (k + 1) T2) := own_sc (own_sc (own_sc M2.out lx.out) lx.out) lx.out
        have I3 : Hid (IsGv (((u2.setCell ⟨xb, 0, none⟩ (.int .i64 a0)).setCell ⟨xb, 1, none⟩ (.int .i64 g)).setCell ⟨xb, 2, none⟩ (.slice p2 n2 c2)) (xb + 1) p2 B2) := gv_sc (gv_sc (gv_sc I2.out (by omega)) (by omega)) (by omega)
        have X3 : Hid ((((u2.setCell ⟨xb, 0, none⟩ (.int .i64 a0)).setCell ⟨xb, 1, none⟩ (.int .i64 g)).setCell ⟨xb, 2, none⟩ (.slice p2 n2 c2)).heap[xb]? = some (.cells #[.int .i64 a0, .int .i64 g, .slice p2 n2 c2] 30 (0, 0))) := Go.Joins.block_setCell (Go.Joins.block_setCell (Go.Joins.block_setCell X2.out _) _) _
        have A3 : Hid ((((u2.setCell ⟨xb, 0, none⟩ (.int .i64 a0)).setCell ⟨xb, 1, none⟩ (.int .i64 g)).setCell ⟨xb, 2, none⟩ (.slice p2 n2 c2)).cell? ⟨z0, 1, none⟩ = some (.int .i64 s)) := by
          show _ = _
          rw [World.cell?_of_block (w := u2) (a := ⟨z0, 1, none⟩) (by
            show (((u2.setCell ⟨xb, 0, none⟩ (.int .i64 a0)).setCell ⟨xb, 1, none⟩ (.int .i64 g)).setCell ⟨xb, 2, none⟩ (.slice p2 n2 c2)).heap[z0]? = u2.heap[z0]?
            rw [Below.heap_setCell _ _ _ _ (by show z0 ≠ xb; have := lz.out; omega), Below.heap_setCell _ _ _ _ (by show z0 ≠ xb; have := lz.out; omega), Below.heap_setCell _ _ _ _ (by show z0 ≠ xb; have := lz.out; omega)])]
          exact A2'.out
        have la3 : Hid (z0 < (((u2.setCell ⟨xb, 0, none⟩ (.int .i64 a0)).setCell ⟨xb, 1, none⟩ (.int .i64 g)).setCell ⟨xb, 2, none⟩ (.slice p2 n2 c2)).heap.size) := by show _ < _; simp only [World.size_setCell]; exact la2
        clear M2 I2 X2 A2'
        go_wp2_with fail
        generalize (((u2.setCell ⟨xb, 0, none⟩ (.int .i64 a0)).setCell ⟨xb, 1, none⟩ (.int .i64 g)).setCell ⟨xb, 2, none⟩ (.slice p2 n2 c2)) = U at M3 I3 X3 A3 la3 ⊢
        refine (t1.out _ M3.out.1).mono ?_
        rintro e u5 ⟨rfl, hu⟩
        have hu5 := hu.symm
        subst hu5
        clear hu
        have A3' := A3.out
        have la3' := la3.out
        have x0U : U.cell? ⟨xb, 0, none⟩ = some (.int .i64 a0) := Go.Joins.cell_of_block X3.out 0
        have x1U : U.cell? ⟨xb, 1, none⟩ = some (.int .i64 g) := Go.Joins.cell_of_block X3.out 1
        have x2U : U.cell? ⟨xb, 2, none⟩ = some (.slice p2 n2 c2) := Go.Joins.cell_of_block X3.out 2
        go_wp2_with fail
        refine (f1.out _ I3.out).mono ?_
        rintro e u6 ⟨rfl, hb6⟩
        have M6 : Hid (Own w u6 (w.heap.size + 2) w.heap.size (w.heap.size + 1) (k + 1) T2) := M3.out.grow hb6
        have I6 : Hid (IsGv u6 (xb + 1) p2 B2) := I3.out.below hb6
        have X6 : Hid (u6.heap[xb]? = some (.cells #[.int .i64 a0, .int .i64 g, .slice p2 n2 c2] 30 (0, 0))) := (hb6.block _ (blk_lt X3.out)).trans X3.out
        clear hb6 A3 A3' la3 la3' x0U x1U x2U M3 I3 X3
        have lx6 : xb < u6.heap.size := blk_lt X6.out
        have x0u6 : u6.cell? ⟨xb, 0, none⟩ = some (.int .i64 a0) := Go.Joins.cell_of_block X6.out 0
        have x1u6 : u6.cell? ⟨xb, 1, none⟩ = some (.int .i64 g) := Go.Joins.cell_of_block X6.out 1
        have x2u6 : u6.cell? ⟨xb, 2, none⟩ = some (.slice p2 n2 c2) := Go.Joins.cell_of_block X6.out 2
        by_cases ta : a2 < 1
        · have oo := cor_nobody C2.out a2 (Or.inl ta)
          have td : decide (1 ≤ a2) = false := by simp; omega
          rw [oo] at o0
          have o1 : Hid (∀ W : World, IsTags W (w.heap.size + 2) w.heap.size (w.heap.size + 1) (k + 1) T2 → Calls Try.prog 16 #[.pointer (some ⟨w.heap.size + 2, 0, none⟩), .int .i64 a2] W fun e w' => e = .returned (.tuple #[.int .i64 0, .bool false]) ∧ w' = W) := o0
          clear o0 oo
          go_wp2_with fail
          refine (o1.out _ M6.out.1).mono ?_
          rintro e u7 ⟨rfl, hu⟩
          have hu7 := hu.symm
          subst hu7
          clear hu
          go_wp2_with fail
          go_quiet ((go_at_call 17; refine Calls.quiet_of_same (v1.out _ (M6.out.1.kept (fun _ _ _ => rfl)))))
          go_wp2_with fail
          go_roundw
          case rel => exact ⟨k + 1, T2, B2, g, p2, c2, by omega, by omega, by go_num, C2, L2, E2, ⟨M6.out.1.kept (fun _ _ _ => rfl), ⟨M6.out.2.1.os, M6.out.2.1.tape, M6.out.2.1.output, M6.out.2.1.size, M6.out.2.1.block⟩, M6.out.2.2⟩, I6.out, (by show _ = _; rw [HN2.out]; exact X6.out)⟩
          case measure => simp [intOf]; omega
        have td : decide (1 ≤ a2) = true := by simp; omega
        by_cases tb : (n2 : Int) < a2
        · have oo := cor_nobody C2.out a2 (Or.inr (by rw [HN2.out]; exact tb))
          have te : decide (a2 ≤ (n2 : Int)) = false := by simp; omega
          rw [oo] at o0
          have o1 : Hid (∀ W : World, IsTags W (w.heap.size + 2) w.heap.size (w.heap.size + 1) (k + 1) T2 → Calls Try.prog 16 #[.pointer (some ⟨w.heap.size + 2, 0, none⟩), .int .i64 a2] W fun e w' => e = .returned (.tuple #[.int .i64 0, .bool false]) ∧ w' = W) := o0
          clear o0 oo
          go_wp2_with fail
          refine (o1.out _ M6.out.1).mono ?_
          rintro e u7 ⟨rfl, hu⟩
          have hu7 := hu.symm
          subst hu7
          clear hu
          go_wp2_with fail
          go_quiet ((go_at_call 17; refine Calls.quiet_of_same (v1.out _ (M6.out.1.kept (fun _ _ _ => rfl)))))
          go_wp2_with fail
          go_roundw
          case rel => exact ⟨k + 1, T2, B2, g, p2, c2, by omega, by omega, by go_num, C2, L2, E2, ⟨M6.out.1.kept (fun _ _ _ => rfl), ⟨M6.out.2.1.os, M6.out.2.1.tape, M6.out.2.1.output, M6.out.2.1.size, M6.out.2.1.block⟩, M6.out.2.2⟩, I6.out, (by show _ = _; rw [HN2.out]; exact X6.out)⟩
          case measure => simp [intOf]; omega
        have te : decide (a2 ≤ (n2 : Int)) = true := by simp; omega
        obtain ⟨i, hi⟩ : ∃ i : Nat, a2 = (i : Int) + 1 := ⟨(a2 - 1).toNat, by omega⟩
        have il : i < n2 := by omega
        have il2 : (i : Int) < (n2 : Int) := by omega
        have il3 : (0 : Int) ≤ (i : Int) := by omega
        have il4 : (i : Int) ≤ 100 := by have := L2.out; have := HN2.out; omega
        obtain ⟨oa, ob⟩ := cor_owner C2.out i (by rw [HN2.out]; exact il)
        obtain ⟨g', rfl, g1', h2', gc⟩ := I6.out i (by rw [HN2.out]; exact il)
        rw [← hi] at oa ob
        generalize B2.getD i Gv.zero = bx at gc oa ob
        obtain ⟨bs, bh⟩ := bx
        simp only at oa ob
        have y6 : u6.cell? ⟨g', i * 2, none⟩ = some (.int .i64 bs) := gc 0 _ rfl
        have y7 : u6.cell? ⟨g', i * 2 + 1, none⟩ = some (.bool bh) := gc 1 _ rfl
        clear gc g1' ta tb
        have sub1 : a2 - 1 = (i : Int) := by omega
        have sub2 : IntKind.i64.wrap (a2 - 1) = (i : Int) := by rw [IntKind.wrap_i64]; omega
        have HI : Hid (a2 = (i : Int) + 1) := hi
        clear hi
        cases bh
        · have oo := ob rfl
          rw [oo] at o0
          have o1 : Hid (∀ W : World, IsTags W (w.heap.size + 2) w.heap.size (w.heap.size + 1) (k + 1) T2 → Calls Try.prog 16 #[.pointer (some ⟨w.heap.size + 2, 0, none⟩), .int .i64 a2] W fun e w' => e = .returned (.tuple #[.int .i64 0, .bool false]) ∧ w' = W) := o0
          clear o0 oo oa ob
          go_wp2_with fail
          refine (o1.out _ M6.out.1).mono ?_
          rintro e u7 ⟨rfl, hu⟩
          have hu7 := hu.symm
          subst hu7
          clear hu
          go_wp2_with fail
          go_quiet ((go_at_call 17; refine Calls.quiet_of_same (v1.out _ (M6.out.1.kept (fun _ _ _ => rfl)))))
          go_wp2_with fail
          go_roundw
          case rel => exact ⟨k + 1, T2, B2, g, (some ⟨g', 0, none⟩), c2, by omega, by omega, by go_num, C2, L2, E2, ⟨M6.out.1.kept (fun _ _ _ => rfl), ⟨M6.out.2.1.os, M6.out.2.1.tape, M6.out.2.1.output, M6.out.2.1.size, M6.out.2.1.block⟩, M6.out.2.2⟩, I6.out, (by show _ = _; rw [HN2.out]; exact X6.out)⟩
          case measure => simp [intOf]; omega
        · have oo := oa rfl
          rw [oo] at o0
          have o1 : Hid (∀ W : World, IsTags W (w.heap.size + 2) w.heap.size (w.heap.size + 1) (k + 1) T2 → Calls Try.prog 16 #[.pointer (some ⟨w.heap.size + 2, 0, none⟩), .int .i64 a2] W fun e w' => e = .returned (.tuple #[.int .i64 bs, .bool true]) ∧ w' = W) := o0
          clear o0 oo oa ob
          go_wp2_with fail
          refine (o1.out _ M6.out.1).mono ?_
          rintro e u7 ⟨rfl, hu⟩
          have hu7 := hu.symm
          subst hu7
          clear hu
          go_wp2_with fail
          go_quiet ((go_at_call 17; refine Calls.quiet_of_same (v1.out _ (M6.out.1.kept (fun _ _ _ => rfl)))))
          go_wp2_with fail
          go_roundw
          case rel => exact ⟨k + 1, T2, B2, g, (some ⟨g', 0, none⟩), c2, by omega, by omega, by go_num, C2, L2, E2, ⟨M6.out.1.kept (fun _ _ _ => rfl), ⟨M6.out.2.1.os, M6.out.2.1.tape, M6.out.2.1.output, M6.out.2.1.size, M6.out.2.1.block⟩, M6.out.2.2⟩, I6.out, (by show _ = _; rw [HN2.out]; exact X6.out)⟩
          case measure => simp [intOf]; omega
    · clear GT DT TT OT ET HA
      by_cases hq : k < n1
      · have hd : decide ((k : Int) < (n1 : Int)) = true := by simp; omega
        have hd2 : decide ((k : Int) < 80) = false := by simp; omega
        clear hlt
        go_wp2_with fail
        go_ret
        exact ⟨rfl, hM.out.2.1⟩
      · have hd : decide ((k : Int) < (n1 : Int)) = false := by simp; omega
        clear hlt
        go_wp2_with fail
        go_ret
        exact ⟨rfl, hM.out.2.1⟩

theorem own : ownKnob Try.prog.godebug = none := by kernel_rfl
theorem laidOut : laidOutB Try.prog = true := by kernel_rfl
set_option maxRecDepth 100000 in
theorem lifted (os : Os) (started : os.Started) (H : Type) (enc : TypeId × Value → H) :
    ReturnsInHanded {} Try.checked os 3 .any (Rows.pcidPlaysSpec.pre6 enc Try.prog Try.f3 Rows.pcidPlaysRow.domain false) (Rows.pcidPlaysSpec.post enc Try.prog Try.f3 false true false false) := by
  refine returnsInHanded_of_change (C := Try.checked) own started (by kernel_rfl) Try.func3
    (ChangeSpec.witness6 (enc := enc) (C := Try.checked) false ⟨#[], #[.int .i64 0, .slice none 0 0, .int .i64 0], []⟩ 8 (by kernel_rfl) (by kernel_rfl) (by kernel_rfl) (by kernel_rfl)) ?_
  intro W base args ds gs before hval0 hW hcnd _
  have hval : ∀ (j : Nat) t v, Try.f3.params[j]? = some t → args[j]? = some v → Value.okWide Try.prog W .any base t v := hval0
  have hW' := hW
  obtain ⟨p, q, hA0, hV, hbef, hfz, hnd⟩ := hW
  have hA : DataW.TrodAll enc Try.prog W 0 (fun _ => true) true Try.f3.params.toList args.toList ds p := hA0
  have hAk := hA
  have hlt : ∀ x ∈ p, x.block < W.heap.size := fun x hx => hW'.lt x (by rw [hbef]; exact List.mem_append_left _ hx)
  rw [Try.params3] at hA hval
  obtain ⟨v0, vs0, d0, ds0, p0, q0, hargs, rfl, hp0, h0, r0⟩ := trodAll_cons hA
  obtain ⟨v1, vs1, d1, ds1, p1, q1, rfl, rfl, hp1, h1, r1⟩ := trodAll_cons r0
  obtain ⟨v2, vs2, d2, ds2, p2, q2, rfl, rfl, hp2, h2, r2⟩ := trodAll_cons r1
  obtain ⟨rfl, rfl, hpz⟩ := trodAll_nil r2
  obtain rfl : args = #[v0, v1, v2] := by cases args; simp_all
  obtain ⟨rfl, rfl⟩ := trodVars_none hV
  obtain ⟨a0, rfl, _, _, w0⟩ := open_int Try.underlying3 (hval 0 3 v0 rfl rfl) h0
  obtain ⟨p1, n1, c1, A1, rfl, m1, H1⟩ := open_acts (hval 1 22 v1 rfl rfl) h1
  obtain ⟨a2, rfl, _, _, w2⟩ := open_int Try.underlying3 (hval 2 3 v2 rfl rfl) h2
  clear hA0 hval0
  refine (walk a0 w0 p1 n1 c1 A1 m1 a2 w2 W H1).mono fun e W' ⟨he, hg⟩ => ?_
  subst he
  exact ⟨_, rfl, ⟨_, _, _, [], p, [], hW', (trodAll_cons_mk (shut_bool Try.underlying4 _) trodAll_mk0), args_stay laidOut hg (by kernel_rfl) hAk hlt, rfl, hg.frame _, fun h => by cases h⟩⟩

theorem over : Rows.pcidPlaysRow.holds Try.pinned (OpenSpec.ofChange Rows.pcidPlaysSpec) :=
  OpenClaim.holds_of_wide 3 Try.f3 rfl rfl rfl rfl rfl rfl rfl ⟨rfl, rfl, rfl, rfl, rfl⟩ rfl rfl rfl rfl rfl (by kernel_rfl) Try.func3 (by kernel_rfl)
    (of_decide_eq_true (by kernel_rfl)) (by unfold Func.isWrapper; first | (rw [if_pos (by decide +kernel)]; kernel_rfl) | (rw [if_neg (by decide +kernel)]; exact ⟨rfl, rfl⟩))
    (fun os started H enc _ => lifted os started H enc)

theorem proved : Rows.PcidPlaysSaid :=
  over
#print axioms proved
end Go.Proofs.Ytbdakoijhpobdaa.pcidPlays
