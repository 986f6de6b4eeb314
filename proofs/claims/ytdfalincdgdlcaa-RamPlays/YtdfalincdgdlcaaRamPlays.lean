/- For any size, any holes and any calls: behind each of any 40 calls the memory answers as the document's bytes say; no condition. -/
import Derived.Test.YtdfalincdgdlcaaRows
import Derived.ProofKit
import Derived.OpenShut
import Derived.Carry
import Derived.Test.YtdfalincdgdlcaaM9
import Derived.Deep.DeepCutAuto
import Derived.Deep.CutBlock
import Derived.Sort.BigQuietIn
namespace Go.Proofs.Ytdfalincdgdlcaa.ramPlays
open Go.ChangeShapes Go.WideShapes Go.ChangeAt Go.RowKit Go.Maps
set_option linter.unusedSimpArgs false
set_option linter.unusedVariables false
theorem chk0 {has : Int → Bool} {ad sz : Int} (h : chkG has ad sz = 0) : ∃ q : Nat, sz = q ∧ q ≤ 8 ∧ ad + q ≤ 18446744073709551616 := by
  unfold chkG at h
  by_cases c : sz = 1 ∨ sz = 2 ∨ sz = 4 ∨ sz = 8
  · rw [if_pos c] at h
    by_cases d : ad + sz ≤ 18446744073709551616 ∧ has (ad / 4096) = true ∧ has ((ad + sz - 1) / 4096) = true
    · exact ⟨sz.toNat, by omega, by omega, by omega⟩
    · rw [if_neg d] at h; omega
  · rw [if_neg c] at h; omega

set_option maxRecDepth 8000 in
set_option maxHeartbeats 16000000 in
theorem walk (a0 : Int) (w0 : (Lit.int .i64 a0).wf = true) (p1 : Option Addr) (n1 c1 : Nat) (F1 : Nat → Int × Int) (m1 : n1 ≤ maxLen) (l1 : n1 ≤ c1) (p2 : Option Addr) (n2 c2 : Nat) (A2 : Nat → Ac) (m2 : n2 ≤ maxLen) (w : World) (H1 : IsRgs w p1 n1 F1) (H2 : IsActs w p2 n2 A2) :
    Calls Try.prog 3 #[.int .i64 a0, .slice p1 n1 c1, .slice p2 n2 c2] w fun e w' => e = .returned (.bool true) ∧ Below w.heap.size w w' := by
  have AWH : Hid (∀ W : World, Calls Try.prog 7 #[] W fun e w' => e = .returned (.bool true) ∧ Below W.heap.size W w') := fun W => awake_any W
  have FW : Hid (Calls Try.prog 4 #[.slice p1 n1 c1] w fun e w' => ∃ g cap hs, e = .returned (.slice (some ⟨g, 0, none⟩) (List.length hs) cap) ∧ List.length hs ≤ 70 ∧ g < w'.heap.size ∧ HolesAt w' g hs ∧ Below w.heap.size w w') := few_any p1 n1 c1 F1 w H1 l1 m1
  have r0 := w0
  simp [Lit.wf, IntKind.min, IntKind.max, IntKind.signed, IntKind.bits] at r0
  have HA : Hid (IsActs w p2 n2 A2) := H2
  have mm : (n2 : Int) ≤ 9223372036854775807 := by have : maxLen ≤ 9223372036854775807 := by decide +kernel
                                                   omega
  have hmm := @run_makeMap Try.prog
  clear H1 l1 H2
  go_enter Try.func3, Try.ntmps3
  go_wp2_with fail
  refine FW.out.mono ?_
  rintro e u1 ⟨g, cap, hs, rfl, l7, k2, k3, hb1⟩
  have B1 : Hid (Below w.heap.size w u1) := hb1
  have H1 : Hid (HolesAt u1 g hs) := k3
  have g1 : Hid (g < u1.heap.size) := k2
  clear hb1 k3 k2 FW
  have CK : Hid (∀ W : World, HolesAt W g hs → g < W.heap.size → Calls Try.prog 6 #[.int .i64 a0, .slice (some ⟨g, 0, none⟩) hs.length cap] W fun e w' => e = .returned (.int .i64 (chkR a0 hs)) ∧ Below W.heap.size W w') := fun W h1 h2 => rcheck_any a0 g cap hs W h1 h2 l7
  by_cases hz : chkR a0 hs = 0
  rotate_left
  · have NW : Hid (∀ W : World, HolesAt W g hs → g < W.heap.size → Calls Try.prog 5 #[.int .i64 a0, .slice (some ⟨g, 0, none⟩) hs.length cap] W fun e w' => e = .returned (.tuple #[.pointer none, .int .i64 (chkR a0 hs)]) ∧ Below W.heap.size W w') := fun W h1 h2 => new_refused a0 g cap hs W h1 h2 hz
    generalize chkR a0 hs = z at NW CK hz
    have zb : (z == 0) = false := by simp [hz]
    have zc : (z != 0) = true := by simp [hz]
    clear hz
    go_wp2_with fail
    refine (NW.out _ H1.out g1.out).mono ?_
    rintro e u2 ⟨rfl, hb2⟩
    have H2 : Hid (HolesAt u2 g hs) := holes_below H1.out g1.out hb2
    have g2 : Hid (g < u2.heap.size) := Nat.lt_of_lt_of_le g1.out hb2.size
    have B2 : Hid (Below w.heap.size w u2) := below_then B1.out hb2
    clear hb2
    go_wp2_with fail
    refine (CK.out _ H2.out g2.out).mono ?_
    rintro e u3 ⟨rfl, hb3⟩
    have B3 : Hid (Below w.heap.size w u3) := below_then B2.out hb3
    clear hb3
    go_wp2_with fail
    refine (AWH.out _).mono ?_
    rintro e u4 ⟨rfl, hb4⟩
    have B4 : Hid (Below w.heap.size w u4) := below_then B3.out hb4
    clear hb4
    go_wp2_with fail
    go_ret
    exact ⟨rfl, B4.out⟩
  obtain ⟨f0, f1, l64, good⟩ := chk_zero hz
  rw [hz] at CK
  have NW : Hid (∀ W : World, HolesAt W g hs → g < W.heap.size → Calls Try.prog 5 #[.int .i64 a0, .slice (some ⟨g, 0, none⟩) hs.length cap] W fun e w' => ∃ rb, e = .returned (.tuple #[.pointer (some ⟨rb, 0, none⟩), .int .i64 0]) ∧ IsRam w' W.heap.size rb (hasH a0 hs) a0 (fun _ => 0) 0 ∧ Below W.heap.size W w') := fun W h1 h2 => new_ram a0 (by omega) (by omega) g cap hs W l64 h1 h2 (good_each good)
  clear hz good
  go_wp2_with fail
  refine (NW.out _ H1.out g1.out).mono ?_
  rintro e u2 ⟨rb, rfl, hr, hb2⟩
  have R2 : Hid (IsRam u2 u1.heap.size rb (hasH a0 hs) a0 (fun _ => 0) 0) := hr
  have H2 : Hid (HolesAt u2 g hs) := holes_below H1.out g1.out hb2
  have g2 : Hid (g < u2.heap.size) := Nat.lt_of_lt_of_le g1.out hb2.size
  have B2 : Hid (Below w.heap.size w u2) := below_then B1.out hb2
  clear hr hb2 H1 NW
  go_wp2_with fail
  refine (CK.out _ H2.out g2.out).mono ?_
  rintro e u3 ⟨rfl, hb3⟩
  have R3 : Hid (IsRam u3 u1.heap.size rb (hasH a0 hs) a0 (fun _ => 0) 0) := R2.out.grown (below_g0 hb3)
  have H3 : Hid (HolesAt u3 g hs) := holes_below H2.out g2.out hb3
  have g3 : Hid (g < u3.heap.size) := Nat.lt_of_lt_of_le g2.out hb3.size
  have B3 : Hid (Below w.heap.size w u3) := below_then B2.out hb3
  clear hb3 H2 g2 B2 R2 CK
  go_wp2_with fail
  refine (AWH.out _).mono ?_
  rintro e u4 ⟨rfl, hb4⟩
  obtain ⟨K0, S, hP0⟩ := play_start (cap := cap) (R3.out.grown (below_g0 hb4)) (below_then B3.out hb4) B1.out.size g1.out (holes_below H3.out g3.out hb4)
  have P0 : Hid (Play w ((u4.alloc (.map #[] 0)).alloc (.cells #[.int .i64 a0, .slice (some ⟨g, 0, none⟩) hs.length cap, .map (some u4.heap.size)] 33)) K0 S rb a0 hs g cap u4.heap.size (u4.heap.size + 1) (fun _ => 0) (fun _ => 0) 0 0) := hP0
  clear hb4 H3 g3 B3 R3 hP0 g1 B1
  go_wp2_with fail
  generalize ((u4.alloc (.map #[] 0)).alloc (.cells #[.int .i64 a0, .slice (some ⟨g, 0, none⟩) hs.length cap, .map (some u4.heap.size)] 33)) = U0 at P0 ⊢
  generalize u4.heap.size + 1 = xb at P0 ⊢
  generalize u4.heap.size = mbx at P0 ⊢
  have RH : Hid (∀ (k : Int) (W : World), HolesAt W g hs → g < W.heap.size → Calls Try.prog 14 #[.agg #[.int .i64 a0, .slice (some ⟨g, 0, none⟩) hs.length cap, .map (some mbx)], .int .i64 k] W fun e w' => e = .returned (.bool (hasH a0 hs k)) ∧ Below W.heap.size W w') := fun k W h1 h2 => rhas_map a0 k g cap mbx hs W h1 h2 l7
  have EH : Hid (∀ (ad sz : Int) (W : World), 0 ≤ ad → ad < 18446744073709551616 → HolesAt W g hs → g < W.heap.size → Calls Try.prog 8 #[.agg #[.int .i64 a0, .slice (some ⟨g, 0, none⟩) hs.length cap, .map (some mbx)], .int .u64 ad, .int .i64 sz] W fun e w' => e = .returned (.int .i64 (chkG (hasH a0 hs) ad sz)) ∧ Below W.heap.size W w') := fun ad sz W h3 h4 h1 h2 => rerr_any a0 ad sz g cap mbx hs W h1 h2 l7 (by omega) (by omega) h3 h4
  have HGE : Hid (∀ k, hasH a0 hs k = true → 0 ≤ k ∧ k ≤ 1048576) := fun k h => ⟨has_ge h, by have := has_lt h; omega⟩
  go_loopw [10] (fun v W => ∃ (k : Nat) (K : Nat → Prop) (M : Int → Int) (n m : Nat), k ≤ n2 ∧ k ≤ 40 ∧ v = .int .i64 k ∧ n ≤ 2 * k ∧ m ≤ 4096 * k ∧ Hid (Play w W K S rb a0 hs g cap mbx xb M M n m)) (fun v _ => 41 - (intOf v).toNat)
  case atStart => exact ⟨0, K0, _, 0, 0, by omega, by omega, rfl, by omega, by omega, P0⟩
  case round =>
    obtain ⟨k, K, M, n, m, hk, hk40, rfl, hn, hm, hP⟩ := hrel
    by_cases hlt : k < n2
    rotate_left
    · have hd : decide ((k : Int) < (n2 : Int)) = false := by simp; omega
      have hd3 : ¬ (k : Int) < (n2 : Int) := by omega
      go_wp2_with fail
      go_ret
      exact ⟨rfl, hP.out.bel⟩
    by_cases h40 : k < 40
    rotate_left
    · have hd : decide ((k : Int) < (n2 : Int)) = true := by simp; omega
      have hd2 : decide ((k : Int) < 40) = false := by simp; omega
      have hd3 : ¬ (k : Int) < 40 := by omega
      go_wp2_with fail
      go_ret
      exact ⟨rfl, hP.out.bel⟩
    have hd : decide ((k : Int) < (n2 : Int)) = true := by simp; omega
    have hd2 : decide ((k : Int) < 40) = true := by simp; omega
    obtain ⟨bq, oq, rfl, lq, yy, wf⟩ := HA.out k hlt
    generalize A2 k = ac at yy wf
    obtain ⟨kd, ad, sz, x, tt, ff⟩ := ac
    have lq2 : bq < wr.heap.size := Nat.lt_of_lt_of_le lq hP.out.bel.size
    have z0 : wr.cell? ⟨bq, oq + k * 6, none⟩ = some (.int .i64 kd) := (World.cell?_of_block (hP.out.bel.block bq lq)).trans (yy 0 _ rfl)
    have z1 : wr.cell? ⟨bq, oq + k * 6 + 1, none⟩ = some (.int .u64 ad) := (World.cell?_of_block (hP.out.bel.block bq lq)).trans (yy 1 _ rfl)
    have z2 : wr.cell? ⟨bq, oq + k * 6 + 2, none⟩ = some (.int .i64 sz) := (World.cell?_of_block (hP.out.bel.block bq lq)).trans (yy 2 _ rfl)
    have z3 : wr.cell? ⟨bq, oq + k * 6 + 3, none⟩ = some (.int .u64 x) := (World.cell?_of_block (hP.out.bel.block bq lq)).trans (yy 3 _ rfl)
    have z4 : wr.cell? ⟨bq, oq + k * 6 + 4, none⟩ = some (.int .i64 tt) := (World.cell?_of_block (hP.out.bel.block bq lq)).trans (yy 4 _ rfl)
    have z5 : wr.cell? ⟨bq, oq + k * 6 + 5, none⟩ = some (.int .i64 ff) := (World.cell?_of_block (hP.out.bel.block bq lq)).trans (yy 5 _ rfl)
    obtain ⟨fk, fa, fs, fx, ft, ff'⟩ := wf
    have fa0 : 0 ≤ ad := fa.1
    have fa1 : ad < 18446744073709551616 := fa.2
    have fx0 : 0 ≤ x := fx.1
    have fx1 : x < 18446744073709551616 := fx.2
    have ft0 : -9223372036854775808 ≤ tt := ft.1
    have ft1 : tt ≤ 9223372036854775807 := ft.2
    have fz0 : -9223372036854775808 ≤ ff := ff'.1
    have fz1 : ff ≤ 9223372036854775807 := ff'.2
    clear yy fk fa fs fx ft ff'
    obtain ⟨K', hPA, KA'⟩ : ∃ K', Play w (wr.alloc (.cells #[.int .i64 kd, .int .u64 ad, .int .i64 sz, .int .u64 x, .int .i64 tt, .int .i64 ff] 36)) K' S rb a0 hs g cap mbx xb M M n m ∧ K' wr.heap.size := ⟨_, hP.out.add _, Or.inr rfl⟩
    have KA : Hid (K' wr.heap.size) := KA'
    have PA : Hid (Play w (wr.alloc (.cells #[.int .i64 kd, .int .u64 ad, .int .i64 sz, .int .u64 x, .int .i64 tt, .int .i64 ff] 36)) K' S rb a0 hs g cap mbx xb M M n m) := hPA
    have AB0 : Hid ((wr.alloc (.cells #[.int .i64 kd, .int .u64 ad, .int .i64 sz, .int .u64 x, .int .i64 tt, .int .i64 ff] 36)).heap[wr.heap.size]? = some (.cells #[.int .i64 kd, .int .u64 ad, .int .i64 sz, .int .u64 x, .int .i64 tt, .int .i64 ff] 36 (0, 0))) := own_new wr _
    have NM : Hid (wr.heap.size ≠ mbx) := by have := hP.out.mem.lt; show _ ≠ _; omega
    have lxw : xb < wr.heap.size := blk_lt2 hP.out.box
    obtain ⟨z, hz⟩ : ∃ z, z = chkG (hasH a0 hs) ad sz := ⟨_, rfl⟩
    have HZ : Hid (chkG (hasH a0 hs) ad sz = z) := hz.symm
    have E1 := EH.out ad sz
    rw [← hz] at E1
    have E2 : Hid _ := E1
    clear hP hPA KA' hz E1
    have px0 : (wr.alloc (.cells #[.int .i64 kd, .int .u64 ad, .int .i64 sz, .int .u64 x, .int .i64 tt, .int .i64 ff] 36)).cell? ⟨xb, 0, none⟩ = some (.int .i64 a0) := Go.Joins.cell_of_block PA.out.box 0
    have px1 : (wr.alloc (.cells #[.int .i64 kd, .int .u64 ad, .int .i64 sz, .int .u64 x, .int .i64 tt, .int .i64 ff] 36)).cell? ⟨xb, 1, none⟩ = some (.slice (some ⟨g, 0, none⟩) hs.length cap) := Go.Joins.cell_of_block PA.out.box 1
    have px2 : (wr.alloc (.cells #[.int .i64 kd, .int .u64 ad, .int .i64 sz, .int .u64 x, .int .i64 tt, .int .i64 ff] 36)).cell? ⟨xb, 2, none⟩ = some (.map (some mbx)) := Go.Joins.cell_of_block PA.out.box 2
    go_wp2_with fail
    refine (E2.out _ fa0 fa1 PA.out.ho PA.out.lg).mono ?_
    rintro e u5 ⟨rfl, hb5⟩
    have P1 : Hid (Play w u5 K' S rb a0 hs g cap mbx xb M M n m) := PA.out.grow (below_g0 hb5)
    have AB1' : Hid (u5.heap[wr.heap.size]? = some (.cells #[.int .i64 kd, .int .u64 ad, .int .i64 sz, .int .u64 x, .int .i64 tt, .int .i64 ff] 36 (0, 0))) := (hb5.block _ (blk_lt2 AB0.out)).trans AB0.out
    clear hb5 PA AB0 z0 z1 z2 z3 z4 z5 px0 px1 px2 lxw E2
    generalize wr.heap.size = ab at KA NM AB1' ⊢
    have AB1 : Hid (u5.heap[ab]? = some (.cells #[.int .i64 kd, .int .u64 ad, .int .i64 sz, .int .u64 x, .int .i64 tt, .int .i64 ff] 36 (0, 0))) := AB1'
    clear AB1'
    have px0 : u5.cell? ⟨xb, 0, none⟩ = some (.int .i64 a0) := Go.Joins.cell_of_block P1.out.box 0
    have px1 : u5.cell? ⟨xb, 1, none⟩ = some (.slice (some ⟨g, 0, none⟩) hs.length cap) := Go.Joins.cell_of_block P1.out.box 1
    have px2 : u5.cell? ⟨xb, 2, none⟩ = some (.map (some mbx)) := Go.Joins.cell_of_block P1.out.box 2
    have pa0 : u5.cell? ⟨ab, 0, none⟩ = some (.int .i64 kd) := Go.Joins.cell_of_block AB1.out 0
    have pa1 : u5.cell? ⟨ab, 1, none⟩ = some (.int .u64 ad) := Go.Joins.cell_of_block AB1.out 1
    have pa2 : u5.cell? ⟨ab, 2, none⟩ = some (.int .i64 sz) := Go.Joins.cell_of_block AB1.out 2
    have pa3 : u5.cell? ⟨ab, 3, none⟩ = some (.int .u64 x) := Go.Joins.cell_of_block AB1.out 3
    have pa4 : u5.cell? ⟨ab, 4, none⟩ = some (.int .i64 tt) := Go.Joins.cell_of_block AB1.out 4
    have pa5 : u5.cell? ⟨ab, 5, none⟩ = some (.int .i64 ff) := Go.Joins.cell_of_block AB1.out 5
    have pl1 : xb < u5.heap.size := blk_lt2 P1.out.box
    have pl2 : ab < u5.heap.size := blk_lt2 AB1.out
    go_upto_block 2 with fail
    go_cut [13, 14, 15, 16] (fun _ _ _ _ W => ∃ (M' : Int → Int) (n' m' : Nat), n' ≤ n + 2 ∧ m' ≤ m + 4096 ∧ Hid (Play w W K' S rb a0 hs g cap mbx xb M' M' n' m') ∧ Hid (W.heap[ab]? = some (.cells #[.int .i64 kd, .int .u64 ad, .int .i64 sz, .int .u64 x, .int .i64 tt, .int .i64 ff] 36 (0, 0))))
    case first =>
      have HN : Hid (n + 1 < maxLen ∧ m + 4096 < maxLen) := by show _ ∧ _; unfold maxLen; omega
      have zz : (z != z) = false := by simp
      clear hd hd2 hk hk40 hlt h40
      by_cases c1 : kd = 1
      · have c1' : (kd == 1) = true := by simp [c1]
        clear c1
        as_aux_lemma =>
          by_cases z0 : z = 0
          · subst z0
            obtain ⟨q, rfl, q8, qf⟩ := chk0 HZ.out
            go_wp2_with fail
            refine (store_K P1.out.ram.ram HN.out.1 ad q x fa0 fa1 HZ.out fx0 fx1).mono ?_
            rintro e v1 ⟨rfl, hr, hkk⟩
            have P2 : Hid (Play w v1 K' S rb a0 hs g cap mbx xb (mset M ad q x) M (n + 2) m) := P1.out.next hr hkk
            have AB2 : Hid (v1.heap[ab]? = some (.cells #[.int .i64 kd, .int .u64 ad, .int .i64 q, .int .u64 x, .int .i64 tt, .int .i64 ff] 36 (0, 0))) := (hkk.block ab KA.out).trans AB1.out
            clear hr hkk
            clear px0 px1 px2 pa0 pa1 pa2 pa3 pa4 pa5 pl1 pl2
            have qx0 : v1.cell? ⟨xb, 0, none⟩ = some (.int .i64 a0) := Go.Joins.cell_of_block P2.out.box 0
            have qx1 : v1.cell? ⟨xb, 1, none⟩ = some (.slice (some ⟨g, 0, none⟩) hs.length cap) := Go.Joins.cell_of_block P2.out.box 1
            have qx2 : v1.cell? ⟨xb, 2, none⟩ = some (.map (some mbx)) := Go.Joins.cell_of_block P2.out.box 2
            have qa0 : v1.cell? ⟨ab, 0, none⟩ = some (.int .i64 kd) := Go.Joins.cell_of_block AB2.out 0
            have qa1 : v1.cell? ⟨ab, 1, none⟩ = some (.int .u64 ad) := Go.Joins.cell_of_block AB2.out 1
            have qa2 : v1.cell? ⟨ab, 2, none⟩ = some (.int .i64 q) := Go.Joins.cell_of_block AB2.out 2
            have qa3 : v1.cell? ⟨ab, 3, none⟩ = some (.int .u64 x) := Go.Joins.cell_of_block AB2.out 3
            have qa4 : v1.cell? ⟨ab, 4, none⟩ = some (.int .i64 tt) := Go.Joins.cell_of_block AB2.out 4
            have qa5 : v1.cell? ⟨ab, 5, none⟩ = some (.int .i64 ff) := Go.Joins.cell_of_block AB2.out 5
            have ql1 : xb < v1.heap.size := blk_lt2 P2.out.box
            have ql2 : ab < v1.heap.size := blk_lt2 AB2.out
            go_wp2_with fail
            refine (rstore_any a0 (.slice (some ⟨g, 0, none⟩) hs.length cap) mbx m M ad q x fa0 qf q8 fx0 fx1 _ P2.out.mem (by have := HN.out.2; omega) rfl).mono ?_
            rintro e v2 ⟨rfl, hm2, hg⟩
            have P3 : Hid (Play w v2 K' S rb a0 hs g cap mbx xb (mset M ad q x) (mset M ad q x) (n + 2) (m + 8)) := P2.out.poke hg hm2
            have AB3 : Hid (v2.heap[ab]? = some (.cells #[.int .i64 kd, .int .u64 ad, .int .i64 q, .int .u64 x, .int .i64 tt, .int .i64 ff] 36 (0, 0))) := (hg.block ab ql2 (fun e => NM.out (Option.some.inj e))).trans AB2.out
            clear hm2 hg
            try go_wp2_with fail
            go_meet
            exact ⟨_, _, _, by omega, by omega, P3, AB3⟩
          · have zb : (z == 0) = false := by simp [z0]
            have zc : (z != 0) = true := by simp [z0]
            go_wp2_with fail
            refine (store_errG P1.out.ram.ram.ram ad sz x fa0 fa1 z HZ.out z0).mono ?_
            rintro e v1 ⟨rfl, hg⟩
            have P3 : Hid (Play w v1 K' S rb a0 hs g cap mbx xb M M n m) := P1.out.grow hg
            have AB3 : Hid (v1.heap[ab]? = some (.cells #[.int .i64 kd, .int .u64 ad, .int .i64 sz, .int .u64 x, .int .i64 tt, .int .i64 ff] 36 (0, 0))) := (hg.block ab pl2 (by simp)).trans AB1.out
            clear hg
            go_wp2_with fail
            go_meet
            exact ⟨_, _, _, by omega, by omega, P3, AB3⟩
      have c1' : (kd == 1) = false := by simp [c1]
      by_cases c2 : kd = 2
      · have c2' : (kd == 2) = true := by simp [c2]
        clear c2
        as_aux_lemma =>
          by_cases z0 : z = 0
          · subst z0
            obtain ⟨q, rfl, q8, qf⟩ := chk0 HZ.out
            obtain ⟨v, hv⟩ : ∃ v, v = ld M ad q := ⟨_, rfl⟩
            have LK : Hid (Calls Try.prog 11 #[.pointer (some ⟨rb, 0, none⟩), .int .u64 ad, .int .i64 q] u5 fun e w' => e = .returned (.tuple #[.int .u64 v, .int .i64 0]) ∧ u5.grownBy w' none) := load_okG P1.out.ram.ram.ram ad q v fa0 fa1 HZ.out (by rw [hv]; rfl)
            have RL : Hid (∀ W : World, BMem W mbx m M → Calls Try.prog 12 #[.agg #[.int .i64 a0, .slice (some ⟨g, 0, none⟩) hs.length cap, .map (some mbx)], .int .u64 ad, .int .i64 q] W fun e w' => e = .returned (.int .u64 v) ∧ Below W.heap.size W w') := fun W h => by
              rw [hv]; exact rload_any a0 (.slice (some ⟨g, 0, none⟩) hs.length cap) mbx m M ad q fa0 qf q8 W h rfl P1.out.ram.ram.byte
            have vv : (v != v) = false := by simp
            clear hv
            go_wp2_with fail
            refine LK.out.mono ?_
            rintro e v1 ⟨rfl, hg⟩
            have P2 : Hid (Play w v1 K' S rb a0 hs g cap mbx xb M M n m) := P1.out.grow hg
            have AB2 : Hid (v1.heap[ab]? = some (.cells #[.int .i64 kd, .int .u64 ad, .int .i64 q, .int .u64 x, .int .i64 tt, .int .i64 ff] 36 (0, 0))) := (hg.block ab pl2 (by simp)).trans AB1.out
            clear hg LK
            clear px0 px1 px2 pa0 pa1 pa2 pa3 pa4 pa5 pl1 pl2
            have qx0 : v1.cell? ⟨xb, 0, none⟩ = some (.int .i64 a0) := Go.Joins.cell_of_block P2.out.box 0
            have qx1 : v1.cell? ⟨xb, 1, none⟩ = some (.slice (some ⟨g, 0, none⟩) hs.length cap) := Go.Joins.cell_of_block P2.out.box 1
            have qx2 : v1.cell? ⟨xb, 2, none⟩ = some (.map (some mbx)) := Go.Joins.cell_of_block P2.out.box 2
            have qa0 : v1.cell? ⟨ab, 0, none⟩ = some (.int .i64 kd) := Go.Joins.cell_of_block AB2.out 0
            have qa1 : v1.cell? ⟨ab, 1, none⟩ = some (.int .u64 ad) := Go.Joins.cell_of_block AB2.out 1
            have qa2 : v1.cell? ⟨ab, 2, none⟩ = some (.int .i64 q) := Go.Joins.cell_of_block AB2.out 2
            have qa3 : v1.cell? ⟨ab, 3, none⟩ = some (.int .u64 x) := Go.Joins.cell_of_block AB2.out 3
            have qa4 : v1.cell? ⟨ab, 4, none⟩ = some (.int .i64 tt) := Go.Joins.cell_of_block AB2.out 4
            have qa5 : v1.cell? ⟨ab, 5, none⟩ = some (.int .i64 ff) := Go.Joins.cell_of_block AB2.out 5
            have ql1 : xb < v1.heap.size := blk_lt2 P2.out.box
            have ql2 : ab < v1.heap.size := blk_lt2 AB2.out
            go_wp2_with fail
            refine (RL.out _ P2.out.mem).mono ?_
            rintro e v2 ⟨rfl, hb⟩
            have P3 : Hid (Play w v2 K' S rb a0 hs g cap mbx xb M M n m) := P2.out.grow (below_g0 hb)
            have AB3 : Hid (v2.heap[ab]? = some (.cells #[.int .i64 kd, .int .u64 ad, .int .i64 q, .int .u64 x, .int .i64 tt, .int .i64 ff] 36 (0, 0))) := (hb.block ab ql2).trans AB2.out
            clear hb
            go_wp2_with fail
            go_meet
            exact ⟨_, _, _, by omega, by omega, P3, AB3⟩
          · have zb : (z == 0) = false := by simp [z0]
            have zc : (z != 0) = true := by simp [z0]
            go_wp2_with fail
            refine (load_errG P1.out.ram.ram.ram ad sz fa0 fa1 z HZ.out z0).mono ?_
            rintro e v1 ⟨rfl, hg⟩
            have P3 : Hid (Play w v1 K' S rb a0 hs g cap mbx xb M M n m) := P1.out.grow hg
            have AB3 : Hid (v1.heap[ab]? = some (.cells #[.int .i64 kd, .int .u64 ad, .int .i64 sz, .int .u64 x, .int .i64 tt, .int .i64 ff] 36 (0, 0))) := (hg.block ab pl2 (by simp)).trans AB1.out
            clear hg
            go_wp2_with fail
            go_meet
            exact ⟨_, _, _, by omega, by omega, P3, AB3⟩
      have c2' : (kd == 2) = false := by simp [c2]
      by_cases c3 : kd = 3
      · have c3' : (kd == 3) = true := by simp [c3]
        clear c3
        as_aux_lemma =>
          cases hR1 : hasH a0 hs tt with
          | true =>
            have R1 : Hid (∀ W : World, HolesAt W g hs → g < W.heap.size → Calls Try.prog 14 #[.agg #[.int .i64 a0, .slice (some ⟨g, 0, none⟩) hs.length cap, .map (some mbx)], .int .i64 tt] W fun e w' => e = .returned (.bool true) ∧ Below W.heap.size W w') := fun W h1 h2 => by
              have q := RH.out tt W h1 h2
              rw [hR1] at q; exact q
            have ge := HGE.out tt hR1
            have ge0 := ge.1
            have ge1 := ge.2
            go_wp2_with fail
            refine (zero_K P1.out.ram.ram tt ft0 ft1 hR1).mono ?_
            rintro e v1 ⟨rfl, hr, hkk⟩
            have P2 : Hid (Play w v1 K' S rb a0 hs g cap mbx xb (mzero M tt) M n m) := P1.out.next hr hkk
            have AB2 : Hid (v1.heap[ab]? = some (.cells #[.int .i64 kd, .int .u64 ad, .int .i64 sz, .int .u64 x, .int .i64 tt, .int .i64 ff] 36 (0, 0))) := (hkk.block ab KA.out).trans AB1.out
            clear hr hkk hR1 ge
            clear px0 px1 px2 pa0 pa1 pa2 pa3 pa4 pa5 pl1 pl2
            have qx0 : v1.cell? ⟨xb, 0, none⟩ = some (.int .i64 a0) := Go.Joins.cell_of_block P2.out.box 0
            have qx1 : v1.cell? ⟨xb, 1, none⟩ = some (.slice (some ⟨g, 0, none⟩) hs.length cap) := Go.Joins.cell_of_block P2.out.box 1
            have qx2 : v1.cell? ⟨xb, 2, none⟩ = some (.map (some mbx)) := Go.Joins.cell_of_block P2.out.box 2
            have qa0 : v1.cell? ⟨ab, 0, none⟩ = some (.int .i64 kd) := Go.Joins.cell_of_block AB2.out 0
            have qa1 : v1.cell? ⟨ab, 1, none⟩ = some (.int .u64 ad) := Go.Joins.cell_of_block AB2.out 1
            have qa2 : v1.cell? ⟨ab, 2, none⟩ = some (.int .i64 sz) := Go.Joins.cell_of_block AB2.out 2
            have qa3 : v1.cell? ⟨ab, 3, none⟩ = some (.int .u64 x) := Go.Joins.cell_of_block AB2.out 3
            have qa4 : v1.cell? ⟨ab, 4, none⟩ = some (.int .i64 tt) := Go.Joins.cell_of_block AB2.out 4
            have qa5 : v1.cell? ⟨ab, 5, none⟩ = some (.int .i64 ff) := Go.Joins.cell_of_block AB2.out 5
            have ql1 : xb < v1.heap.size := blk_lt2 P2.out.box
            have ql2 : ab < v1.heap.size := blk_lt2 AB2.out
            go_wp2_with fail
            refine (R1.out _ P2.out.ho P2.out.lg).mono ?_
            rintro e v2 ⟨rfl, hb⟩
            have P3 : Hid (Play w v2 K' S rb a0 hs g cap mbx xb (mzero M tt) M n m) := P2.out.grow (below_g0 hb)
            have AB3 : Hid (v2.heap[ab]? = some (.cells #[.int .i64 kd, .int .u64 ad, .int .i64 sz, .int .u64 x, .int .i64 tt, .int .i64 ff] 36 (0, 0))) := (hb.block ab ql2).trans AB2.out
            clear hb
            clear qx0 qx1 qx2 qa0 qa1 qa2 qa3 qa4 qa5 ql1 ql2
            have sx0 : v2.cell? ⟨xb, 0, none⟩ = some (.int .i64 a0) := Go.Joins.cell_of_block P3.out.box 0
            have sx1 : v2.cell? ⟨xb, 1, none⟩ = some (.slice (some ⟨g, 0, none⟩) hs.length cap) := Go.Joins.cell_of_block P3.out.box 1
            have sx2 : v2.cell? ⟨xb, 2, none⟩ = some (.map (some mbx)) := Go.Joins.cell_of_block P3.out.box 2
            have sa0 : v2.cell? ⟨ab, 0, none⟩ = some (.int .i64 kd) := Go.Joins.cell_of_block AB3.out 0
            have sa1 : v2.cell? ⟨ab, 1, none⟩ = some (.int .u64 ad) := Go.Joins.cell_of_block AB3.out 1
            have sa2 : v2.cell? ⟨ab, 2, none⟩ = some (.int .i64 sz) := Go.Joins.cell_of_block AB3.out 2
            have sa3 : v2.cell? ⟨ab, 3, none⟩ = some (.int .u64 x) := Go.Joins.cell_of_block AB3.out 3
            have sa4 : v2.cell? ⟨ab, 4, none⟩ = some (.int .i64 tt) := Go.Joins.cell_of_block AB3.out 4
            have sa5 : v2.cell? ⟨ab, 5, none⟩ = some (.int .i64 ff) := Go.Joins.cell_of_block AB3.out 5
            have sl1 : xb < v2.heap.size := blk_lt2 P3.out.box
            have sl2 : ab < v2.heap.size := blk_lt2 AB3.out
            go_wp2_with fail
            refine (rzero_any a0 (.slice (some ⟨g, 0, none⟩) hs.length cap) mbx m M tt ge0 ge1 _ P3.out.mem rfl).mono ?_
            rintro e v3 ⟨rfl, hm2, hg⟩
            have P4 : Hid (Play w v3 K' S rb a0 hs g cap mbx xb (mzero M tt) (mzero M tt) n m) := P3.out.poke hg hm2
            have AB4 : Hid (v3.heap[ab]? = some (.cells #[.int .i64 kd, .int .u64 ad, .int .i64 sz, .int .u64 x, .int .i64 tt, .int .i64 ff] 36 (0, 0))) := (hg.block ab sl2 (fun e => NM.out (Option.some.inj e))).trans AB3.out
            clear hm2 hg
            try go_wp2_with fail
            go_meet
            exact ⟨_, _, _, by omega, by omega, P4, AB4⟩
          | false =>
            have R1 : Hid (∀ W : World, HolesAt W g hs → g < W.heap.size → Calls Try.prog 14 #[.agg #[.int .i64 a0, .slice (some ⟨g, 0, none⟩) hs.length cap, .map (some mbx)], .int .i64 tt] W fun e w' => e = .returned (.bool false) ∧ Below W.heap.size W w') := fun W h1 h2 => by
              have q := RH.out tt W h1 h2
              rw [hR1] at q; exact q
            go_wp2_with fail
            refine (zero_no P1.out.ram.ok tt hR1).mono ?_
            rintro e v1 ⟨rfl, hg⟩
            have P2 : Hid (Play w v1 K' S rb a0 hs g cap mbx xb M M n m) := P1.out.grow hg
            have AB2 : Hid (v1.heap[ab]? = some (.cells #[.int .i64 kd, .int .u64 ad, .int .i64 sz, .int .u64 x, .int .i64 tt, .int .i64 ff] 36 (0, 0))) := (hg.block ab pl2 (by simp)).trans AB1.out
            clear hg hR1
            clear px0 px1 px2 pa0 pa1 pa2 pa3 pa4 pa5 pl1 pl2
            have qx0 : v1.cell? ⟨xb, 0, none⟩ = some (.int .i64 a0) := Go.Joins.cell_of_block P2.out.box 0
            have qx1 : v1.cell? ⟨xb, 1, none⟩ = some (.slice (some ⟨g, 0, none⟩) hs.length cap) := Go.Joins.cell_of_block P2.out.box 1
            have qx2 : v1.cell? ⟨xb, 2, none⟩ = some (.map (some mbx)) := Go.Joins.cell_of_block P2.out.box 2
            have qa0 : v1.cell? ⟨ab, 0, none⟩ = some (.int .i64 kd) := Go.Joins.cell_of_block AB2.out 0
            have qa1 : v1.cell? ⟨ab, 1, none⟩ = some (.int .u64 ad) := Go.Joins.cell_of_block AB2.out 1
            have qa2 : v1.cell? ⟨ab, 2, none⟩ = some (.int .i64 sz) := Go.Joins.cell_of_block AB2.out 2
            have qa3 : v1.cell? ⟨ab, 3, none⟩ = some (.int .u64 x) := Go.Joins.cell_of_block AB2.out 3
            have qa4 : v1.cell? ⟨ab, 4, none⟩ = some (.int .i64 tt) := Go.Joins.cell_of_block AB2.out 4
            have qa5 : v1.cell? ⟨ab, 5, none⟩ = some (.int .i64 ff) := Go.Joins.cell_of_block AB2.out 5
            have ql1 : xb < v1.heap.size := blk_lt2 P2.out.box
            have ql2 : ab < v1.heap.size := blk_lt2 AB2.out
            go_wp2_with fail
            refine (R1.out _ P2.out.ho P2.out.lg).mono ?_
            rintro e v2 ⟨rfl, hb⟩
            have P3 : Hid (Play w v2 K' S rb a0 hs g cap mbx xb M M n m) := P2.out.grow (below_g0 hb)
            have AB3 : Hid (v2.heap[ab]? = some (.cells #[.int .i64 kd, .int .u64 ad, .int .i64 sz, .int .u64 x, .int .i64 tt, .int .i64 ff] 36 (0, 0))) := (hb.block ab ql2).trans AB2.out
            clear hb
            go_wp2_with fail
            go_meet
            exact ⟨_, _, _, by omega, by omega, P3, AB3⟩
      have c3' : (kd == 3) = false := by simp [c3]
      by_cases c4 : kd = 4
      · have c4' : (kd == 4) = true := by simp [c4]
        clear c4
        as_aux_lemma =>
          cases hR1 : hasH a0 hs tt with
          | false =>
            have R1 : Hid (∀ W : World, HolesAt W g hs → g < W.heap.size → Calls Try.prog 14 #[.agg #[.int .i64 a0, .slice (some ⟨g, 0, none⟩) hs.length cap, .map (some mbx)], .int .i64 tt] W fun e w' => e = .returned (.bool false) ∧ Below W.heap.size W w') := fun W h1 h2 => by
              have q := RH.out tt W h1 h2
              rw [hR1] at q; exact q
            go_wp2_with fail
            refine (copy_no P1.out.ram.ok tt ff (by simp [hR1])).mono ?_
            rintro e v1 ⟨rfl, hg⟩
            have P2 : Hid (Play w v1 K' S rb a0 hs g cap mbx xb M M n m) := P1.out.grow hg
            have AB2 : Hid (v1.heap[ab]? = some (.cells #[.int .i64 kd, .int .u64 ad, .int .i64 sz, .int .u64 x, .int .i64 tt, .int .i64 ff] 36 (0, 0))) := (hg.block ab pl2 (by simp)).trans AB1.out
            clear hg hR1
            clear px0 px1 px2 pa0 pa1 pa2 pa3 pa4 pa5 pl1 pl2
            have qx0 : v1.cell? ⟨xb, 0, none⟩ = some (.int .i64 a0) := Go.Joins.cell_of_block P2.out.box 0
            have qx1 : v1.cell? ⟨xb, 1, none⟩ = some (.slice (some ⟨g, 0, none⟩) hs.length cap) := Go.Joins.cell_of_block P2.out.box 1
            have qx2 : v1.cell? ⟨xb, 2, none⟩ = some (.map (some mbx)) := Go.Joins.cell_of_block P2.out.box 2
            have qa0 : v1.cell? ⟨ab, 0, none⟩ = some (.int .i64 kd) := Go.Joins.cell_of_block AB2.out 0
            have qa1 : v1.cell? ⟨ab, 1, none⟩ = some (.int .u64 ad) := Go.Joins.cell_of_block AB2.out 1
            have qa2 : v1.cell? ⟨ab, 2, none⟩ = some (.int .i64 sz) := Go.Joins.cell_of_block AB2.out 2
            have qa3 : v1.cell? ⟨ab, 3, none⟩ = some (.int .u64 x) := Go.Joins.cell_of_block AB2.out 3
            have qa4 : v1.cell? ⟨ab, 4, none⟩ = some (.int .i64 tt) := Go.Joins.cell_of_block AB2.out 4
            have qa5 : v1.cell? ⟨ab, 5, none⟩ = some (.int .i64 ff) := Go.Joins.cell_of_block AB2.out 5
            have ql1 : xb < v1.heap.size := blk_lt2 P2.out.box
            have ql2 : ab < v1.heap.size := blk_lt2 AB2.out
            go_wp2_with fail
            refine (R1.out _ P2.out.ho P2.out.lg).mono ?_
            rintro e v2 ⟨rfl, hb⟩
            have P3 : Hid (Play w v2 K' S rb a0 hs g cap mbx xb M M n m) := P2.out.grow (below_g0 hb)
            have AB3 : Hid (v2.heap[ab]? = some (.cells #[.int .i64 kd, .int .u64 ad, .int .i64 sz, .int .u64 x, .int .i64 tt, .int .i64 ff] 36 (0, 0))) := (hb.block ab ql2).trans AB2.out
            clear hb
            go_wp2_with fail
            go_meet
            exact ⟨_, _, _, by omega, by omega, P3, AB3⟩
          | true =>
            have R1 : Hid (∀ W : World, HolesAt W g hs → g < W.heap.size → Calls Try.prog 14 #[.agg #[.int .i64 a0, .slice (some ⟨g, 0, none⟩) hs.length cap, .map (some mbx)], .int .i64 tt] W fun e w' => e = .returned (.bool true) ∧ Below W.heap.size W w') := fun W h1 h2 => by
              have q := RH.out tt W h1 h2
              rw [hR1] at q; exact q
            cases hR2 : hasH a0 hs ff with
            | false =>
              have R2 : Hid (∀ W : World, HolesAt W g hs → g < W.heap.size → Calls Try.prog 14 #[.agg #[.int .i64 a0, .slice (some ⟨g, 0, none⟩) hs.length cap, .map (some mbx)], .int .i64 ff] W fun e w' => e = .returned (.bool false) ∧ Below W.heap.size W w') := fun W h1 h2 => by
                have q := RH.out ff W h1 h2
                rw [hR2] at q; exact q
              go_wp2_with fail
              refine (copy_no P1.out.ram.ok tt ff (by simp [hR1, hR2])).mono ?_
              rintro e v1 ⟨rfl, hg⟩
              have P2 : Hid (Play w v1 K' S rb a0 hs g cap mbx xb M M n m) := P1.out.grow hg
              have AB2 : Hid (v1.heap[ab]? = some (.cells #[.int .i64 kd, .int .u64 ad, .int .i64 sz, .int .u64 x, .int .i64 tt, .int .i64 ff] 36 (0, 0))) := (hg.block ab pl2 (by simp)).trans AB1.out
              clear hg hR1 hR2
              clear px0 px1 px2 pa0 pa1 pa2 pa3 pa4 pa5 pl1 pl2
              have qx0 : v1.cell? ⟨xb, 0, none⟩ = some (.int .i64 a0) := Go.Joins.cell_of_block P2.out.box 0
              have qx1 : v1.cell? ⟨xb, 1, none⟩ = some (.slice (some ⟨g, 0, none⟩) hs.length cap) := Go.Joins.cell_of_block P2.out.box 1
              have qx2 : v1.cell? ⟨xb, 2, none⟩ = some (.map (some mbx)) := Go.Joins.cell_of_block P2.out.box 2
              have qa0 : v1.cell? ⟨ab, 0, none⟩ = some (.int .i64 kd) := Go.Joins.cell_of_block AB2.out 0
              have qa1 : v1.cell? ⟨ab, 1, none⟩ = some (.int .u64 ad) := Go.Joins.cell_of_block AB2.out 1
              have qa2 : v1.cell? ⟨ab, 2, none⟩ = some (.int .i64 sz) := Go.Joins.cell_of_block AB2.out 2
              have qa3 : v1.cell? ⟨ab, 3, none⟩ = some (.int .u64 x) := Go.Joins.cell_of_block AB2.out 3
              have qa4 : v1.cell? ⟨ab, 4, none⟩ = some (.int .i64 tt) := Go.Joins.cell_of_block AB2.out 4
              have qa5 : v1.cell? ⟨ab, 5, none⟩ = some (.int .i64 ff) := Go.Joins.cell_of_block AB2.out 5
              have ql1 : xb < v1.heap.size := blk_lt2 P2.out.box
              have ql2 : ab < v1.heap.size := blk_lt2 AB2.out
              go_wp2_with fail
              refine (R1.out _ P2.out.ho P2.out.lg).mono ?_
              rintro e v2 ⟨rfl, hb⟩
              have P3 : Hid (Play w v2 K' S rb a0 hs g cap mbx xb M M n m) := P2.out.grow (below_g0 hb)
              have AB3 : Hid (v2.heap[ab]? = some (.cells #[.int .i64 kd, .int .u64 ad, .int .i64 sz, .int .u64 x, .int .i64 tt, .int .i64 ff] 36 (0, 0))) := (hb.block ab ql2).trans AB2.out
              clear hb
              clear qx0 qx1 qx2 qa0 qa1 qa2 qa3 qa4 qa5 ql1 ql2
              have sx0 : v2.cell? ⟨xb, 0, none⟩ = some (.int .i64 a0) := Go.Joins.cell_of_block P3.out.box 0
              have sx1 : v2.cell? ⟨xb, 1, none⟩ = some (.slice (some ⟨g, 0, none⟩) hs.length cap) := Go.Joins.cell_of_block P3.out.box 1
              have sx2 : v2.cell? ⟨xb, 2, none⟩ = some (.map (some mbx)) := Go.Joins.cell_of_block P3.out.box 2
              have sa0 : v2.cell? ⟨ab, 0, none⟩ = some (.int .i64 kd) := Go.Joins.cell_of_block AB3.out 0
              have sa1 : v2.cell? ⟨ab, 1, none⟩ = some (.int .u64 ad) := Go.Joins.cell_of_block AB3.out 1
              have sa2 : v2.cell? ⟨ab, 2, none⟩ = some (.int .i64 sz) := Go.Joins.cell_of_block AB3.out 2
              have sa3 : v2.cell? ⟨ab, 3, none⟩ = some (.int .u64 x) := Go.Joins.cell_of_block AB3.out 3
              have sa4 : v2.cell? ⟨ab, 4, none⟩ = some (.int .i64 tt) := Go.Joins.cell_of_block AB3.out 4
              have sa5 : v2.cell? ⟨ab, 5, none⟩ = some (.int .i64 ff) := Go.Joins.cell_of_block AB3.out 5
              have sl1 : xb < v2.heap.size := blk_lt2 P3.out.box
              have sl2 : ab < v2.heap.size := blk_lt2 AB3.out
              go_wp2_with fail
              refine (R2.out _ P3.out.ho P3.out.lg).mono ?_
              rintro e v3 ⟨rfl, hb⟩
              have P4 : Hid (Play w v3 K' S rb a0 hs g cap mbx xb M M n m) := P3.out.grow (below_g0 hb)
              have AB4 : Hid (v3.heap[ab]? = some (.cells #[.int .i64 kd, .int .u64 ad, .int .i64 sz, .int .u64 x, .int .i64 tt, .int .i64 ff] 36 (0, 0))) := (hb.block ab sl2).trans AB3.out
              clear hb
              go_wp2_with fail
              go_meet
              exact ⟨_, _, _, by omega, by omega, P4, AB4⟩
            | true =>
              have R2 : Hid (∀ W : World, HolesAt W g hs → g < W.heap.size → Calls Try.prog 14 #[.agg #[.int .i64 a0, .slice (some ⟨g, 0, none⟩) hs.length cap, .map (some mbx)], .int .i64 ff] W fun e w' => e = .returned (.bool true) ∧ Below W.heap.size W w') := fun W h1 h2 => by
                have q := RH.out ff W h1 h2
                rw [hR2] at q; exact q
              have ge := HGE.out tt hR1
              have gf := HGE.out ff hR2
              have ge0 := ge.1
              have ge1 := ge.2
              have gf0 := gf.1
              have gf1 := gf.2
              go_wp2_with fail
              refine (copy_K P1.out.ram.ram (by have := HN.out.1; omega) tt ff ft0 ft1 fz0 fz1 hR1 hR2).mono ?_
              rintro e v1 ⟨rfl, hr, hkk⟩
              have P2 : Hid (Play w v1 K' S rb a0 hs g cap mbx xb (mcopy M tt ff) M (n + 1) m) := P1.out.next hr hkk
              have AB2 : Hid (v1.heap[ab]? = some (.cells #[.int .i64 kd, .int .u64 ad, .int .i64 sz, .int .u64 x, .int .i64 tt, .int .i64 ff] 36 (0, 0))) := (hkk.block ab KA.out).trans AB1.out
              clear hr hkk hR1 hR2 ge gf
              clear px0 px1 px2 pa0 pa1 pa2 pa3 pa4 pa5 pl1 pl2
              have qx0 : v1.cell? ⟨xb, 0, none⟩ = some (.int .i64 a0) := Go.Joins.cell_of_block P2.out.box 0
              have qx1 : v1.cell? ⟨xb, 1, none⟩ = some (.slice (some ⟨g, 0, none⟩) hs.length cap) := Go.Joins.cell_of_block P2.out.box 1
              have qx2 : v1.cell? ⟨xb, 2, none⟩ = some (.map (some mbx)) := Go.Joins.cell_of_block P2.out.box 2
              have qa0 : v1.cell? ⟨ab, 0, none⟩ = some (.int .i64 kd) := Go.Joins.cell_of_block AB2.out 0
              have qa1 : v1.cell? ⟨ab, 1, none⟩ = some (.int .u64 ad) := Go.Joins.cell_of_block AB2.out 1
              have qa2 : v1.cell? ⟨ab, 2, none⟩ = some (.int .i64 sz) := Go.Joins.cell_of_block AB2.out 2
              have qa3 : v1.cell? ⟨ab, 3, none⟩ = some (.int .u64 x) := Go.Joins.cell_of_block AB2.out 3
              have qa4 : v1.cell? ⟨ab, 4, none⟩ = some (.int .i64 tt) := Go.Joins.cell_of_block AB2.out 4
              have qa5 : v1.cell? ⟨ab, 5, none⟩ = some (.int .i64 ff) := Go.Joins.cell_of_block AB2.out 5
              have ql1 : xb < v1.heap.size := blk_lt2 P2.out.box
              have ql2 : ab < v1.heap.size := blk_lt2 AB2.out
              go_wp2_with fail
              refine (R1.out _ P2.out.ho P2.out.lg).mono ?_
              rintro e v2 ⟨rfl, hb⟩
              have P3 : Hid (Play w v2 K' S rb a0 hs g cap mbx xb (mcopy M tt ff) M (n + 1) m) := P2.out.grow (below_g0 hb)
              have AB3 : Hid (v2.heap[ab]? = some (.cells #[.int .i64 kd, .int .u64 ad, .int .i64 sz, .int .u64 x, .int .i64 tt, .int .i64 ff] 36 (0, 0))) := (hb.block ab ql2).trans AB2.out
              clear hb
              clear qx0 qx1 qx2 qa0 qa1 qa2 qa3 qa4 qa5 ql1 ql2
              have sx0 : v2.cell? ⟨xb, 0, none⟩ = some (.int .i64 a0) := Go.Joins.cell_of_block P3.out.box 0
              have sx1 : v2.cell? ⟨xb, 1, none⟩ = some (.slice (some ⟨g, 0, none⟩) hs.length cap) := Go.Joins.cell_of_block P3.out.box 1
              have sx2 : v2.cell? ⟨xb, 2, none⟩ = some (.map (some mbx)) := Go.Joins.cell_of_block P3.out.box 2
              have sa0 : v2.cell? ⟨ab, 0, none⟩ = some (.int .i64 kd) := Go.Joins.cell_of_block AB3.out 0
              have sa1 : v2.cell? ⟨ab, 1, none⟩ = some (.int .u64 ad) := Go.Joins.cell_of_block AB3.out 1
              have sa2 : v2.cell? ⟨ab, 2, none⟩ = some (.int .i64 sz) := Go.Joins.cell_of_block AB3.out 2
              have sa3 : v2.cell? ⟨ab, 3, none⟩ = some (.int .u64 x) := Go.Joins.cell_of_block AB3.out 3
              have sa4 : v2.cell? ⟨ab, 4, none⟩ = some (.int .i64 tt) := Go.Joins.cell_of_block AB3.out 4
              have sa5 : v2.cell? ⟨ab, 5, none⟩ = some (.int .i64 ff) := Go.Joins.cell_of_block AB3.out 5
              have sl1 : xb < v2.heap.size := blk_lt2 P3.out.box
              have sl2 : ab < v2.heap.size := blk_lt2 AB3.out
              go_wp2_with fail
              refine (R2.out _ P3.out.ho P3.out.lg).mono ?_
              rintro e v3 ⟨rfl, hb⟩
              have P4 : Hid (Play w v3 K' S rb a0 hs g cap mbx xb (mcopy M tt ff) M (n + 1) m) := P3.out.grow (below_g0 hb)
              have AB4 : Hid (v3.heap[ab]? = some (.cells #[.int .i64 kd, .int .u64 ad, .int .i64 sz, .int .u64 x, .int .i64 tt, .int .i64 ff] 36 (0, 0))) := (hb.block ab sl2).trans AB3.out
              clear hb
              clear sx0 sx1 sx2 sa0 sa1 sa2 sa3 sa4 sa5 sl1 sl2
              have tx0 : v3.cell? ⟨xb, 0, none⟩ = some (.int .i64 a0) := Go.Joins.cell_of_block P4.out.box 0
              have tx1 : v3.cell? ⟨xb, 1, none⟩ = some (.slice (some ⟨g, 0, none⟩) hs.length cap) := Go.Joins.cell_of_block P4.out.box 1
              have tx2 : v3.cell? ⟨xb, 2, none⟩ = some (.map (some mbx)) := Go.Joins.cell_of_block P4.out.box 2
              have ta0 : v3.cell? ⟨ab, 0, none⟩ = some (.int .i64 kd) := Go.Joins.cell_of_block AB4.out 0
              have ta1 : v3.cell? ⟨ab, 1, none⟩ = some (.int .u64 ad) := Go.Joins.cell_of_block AB4.out 1
              have ta2 : v3.cell? ⟨ab, 2, none⟩ = some (.int .i64 sz) := Go.Joins.cell_of_block AB4.out 2
              have ta3 : v3.cell? ⟨ab, 3, none⟩ = some (.int .u64 x) := Go.Joins.cell_of_block AB4.out 3
              have ta4 : v3.cell? ⟨ab, 4, none⟩ = some (.int .i64 tt) := Go.Joins.cell_of_block AB4.out 4
              have ta5 : v3.cell? ⟨ab, 5, none⟩ = some (.int .i64 ff) := Go.Joins.cell_of_block AB4.out 5
              have tl1 : xb < v3.heap.size := blk_lt2 P4.out.box
              have tl2 : ab < v3.heap.size := blk_lt2 AB4.out
              go_wp2_with fail
              refine (rcopy_any a0 (.slice (some ⟨g, 0, none⟩) hs.length cap) mbx m M tt ff ge0 ge1 gf0 gf1 _ P4.out.mem HN.out.2 rfl).mono ?_
              rintro e v4 ⟨rfl, hm2, hg⟩
              have P5 : Hid (Play w v4 K' S rb a0 hs g cap mbx xb (mcopy M tt ff) (mcopy M tt ff) (n + 1) (m + 4096)) := P4.out.poke hg hm2
              have AB5 : Hid (v4.heap[ab]? = some (.cells #[.int .i64 kd, .int .u64 ad, .int .i64 sz, .int .u64 x, .int .i64 tt, .int .i64 ff] 36 (0, 0))) := (hg.block ab tl2 (fun e => NM.out (Option.some.inj e))).trans AB4.out
              clear hm2 hg
              try go_wp2_with fail
              go_meet
              exact ⟨_, _, _, by omega, by omega, P5, AB5⟩
      have c4' : (kd == 4) = false := by simp [c4]
      go_wp2_with fail
      go_meet
      exact ⟨_, _, _, by omega, by omega, P1, AB1⟩
    case rest =>
      obtain ⟨M', n', m', hn', hm', P2, AB2⟩ := hcut
      clear P1 AB1 px0 px1 px2 pa0 pa1 pa2 pa3 pa4 pa5 pl1 pl2
      as_aux_lemma =>
        go_upto_region 35 with fail
        have PD : Hid (Play w wc.drew K' S rb a0 hs g cap mbx xb M' M' n' m') := P2.out.drew
        have AD : Hid (wc.drew.heap[ab]? = some (.cells #[.int .i64 kd, .int .u64 ad, .int .i64 sz, .int .u64 x, .int .i64 tt, .int .i64 ff] 36 (0, 0))) := AB2
        by_cases t0 : tt < 0
        · have e0 : decide (0 ≤ tt) = false := by simp; omega
          refine wp_region_noPanic ?_
          refine wp_region_held_drew (S := fun c => Hid (c.heap[xb]? = some (.cells #[.int .i64 a0, .slice (some ⟨g, 0, none⟩) hs.length cap, .map (some mbx)] 33 (0, 0))) ∧ Hid (c.heap[ab]? = some (.cells #[.int .i64 kd, .int .u64 ad, .int .i64 sz, .int .u64 x, .int .i64 tt, .int .i64 ff] 36 (0, 0)))) (by kernel_rfl) ?_ (fun hHeld => ?_)
          · exact ⟨PD.out.box, AD⟩
          generalize wc.drew = U at PD AD hHeld ⊢
          clear P2 AB2
          refine wpAnyH_take (i := 0) (oi := ⟨some 192, _, _, _, _, none⟩) (v := (.pointer (some ⟨ab, 4, none⟩))) rfl (by kernel_rfl) (by kernel_rfl) (by kernel_rfl) (fun _ _ _ h => h) (Or.inl ⟨by rfl, ?_⟩) (by assumption) ?_
          · intro w hSw; (try dsimp only at hSw); go_simp; (try simp)
          try simp only [Act.put, List.setIfInBounds_toArray, List.set_cons_zero, List.set_cons_succ]
          refine wpAnyH_take (i := 1) (oi := ⟨some 193, _, _, _, _, none⟩) (v := (.int .i64 tt)) rfl (by kernel_rfl) (by kernel_rfl) (by kernel_rfl) (fun _ _ _ h => h) (Or.inl ⟨by rfl, ?_⟩) (by assumption) ?_
          · intro w hSw; (try dsimp only at hSw); have q4 : w.cell? ⟨ab, 4, none⟩ = some (.int .i64 tt) := Go.Joins.cell_of_block hSw.2.out 4; go_simp; (try simp)
          try simp only [Act.put, List.setIfInBounds_toArray, List.set_cons_zero, List.set_cons_succ]
          refine wpAnyH_take (i := 2) (oi := ⟨some 194, _, _, _, _, none⟩) (v := (.bool false)) rfl (by kernel_rfl) (by kernel_rfl) (by kernel_rfl) (fun _ _ _ h => h) (Or.inl ⟨by rfl, ?_⟩) (by assumption) ?_
          · intro w hSw; (try dsimp only at hSw); go_simp; (try simp)
          try simp only [Act.put, List.setIfInBounds_toArray, List.set_cons_zero, List.set_cons_succ]
          refine wpAnyH_take (i := 3) (oi := ⟨some 195, _, _, _, _, none⟩) (v := ?_) rfl (by kernel_rfl) (by kernel_rfl) (by kernel_rfl) (fun _ _ _ h => h) (Or.inl ⟨by rfl, ?_⟩) (by assumption) ?_
          rotate_left
          · intro w hSw; (try dsimp only at hSw); go_simp; (try with_reducible rfl)
          try simp only [Act.put, List.setIfInBounds_toArray, List.set_cons_zero, List.set_cons_succ]
          refine wpAnyH_take (i := 4) (oi := ⟨some 196, _, _, _, _, some (3, true)⟩) (v := undef) rfl (by kernel_rfl) (by kernel_rfl) (by kernel_rfl) (fun _ _ _ h => h) (Or.inr ⟨by rfl, rfl⟩) (by assumption) ?_
          try simp only [Act.put, List.setIfInBounds_toArray, List.set_cons_zero, List.set_cons_succ]
          refine wpAnyH_take (i := 5) (oi := ⟨some 197, _, _, _, _, some (3, true)⟩) (v := undef) rfl (by kernel_rfl) (by kernel_rfl) (by kernel_rfl) (fun _ _ _ h => h) (Or.inr ⟨by rfl, rfl⟩) (by assumption) ?_
          try simp only [Act.put, List.setIfInBounds_toArray, List.set_cons_zero, List.set_cons_succ]
          refine wpAnyH_take (i := 6) (oi := ⟨some 198, _, _, _, _, some (3, true)⟩) (v := undef) rfl (by kernel_rfl) (by kernel_rfl) (by kernel_rfl) (fun _ _ _ h => h) (Or.inr ⟨by rfl, rfl⟩) (by assumption) ?_
          try simp only [Act.put, List.setIfInBounds_toArray, List.set_cons_zero, List.set_cons_succ]
          refine wpAnyH_take (i := 7) (oi := ⟨some 199, _, _, _, _, some (3, true)⟩) (v := undef) rfl (by kernel_rfl) (by kernel_rfl) (by kernel_rfl) (fun _ _ _ h => h) (Or.inr ⟨by rfl, rfl⟩) (by assumption) ?_
          try simp only [Act.put, List.setIfInBounds_toArray, List.set_cons_zero, List.set_cons_succ]
          refine wpAnyH_take (i := 8) (oi := ⟨some 200, _, _, _, _, none⟩) (v := (.bool false)) rfl (by kernel_rfl) (by kernel_rfl) (by kernel_rfl) (fun _ _ _ h => h) (Or.inl ⟨by rfl, ?_⟩) (by assumption) ?_
          · intro w hSw; (try dsimp only at hSw); go_simp; (try simp)
          try simp only [Act.put, List.setIfInBounds_toArray, List.set_cons_zero, List.set_cons_succ]
          refine wpAnyH_take (i := 9) (oi := ⟨some 201, _, _, _, _, none⟩) (v := ?_) rfl (by kernel_rfl) (by kernel_rfl) (by kernel_rfl) (fun _ _ _ h => h) (Or.inl ⟨by rfl, ?_⟩) (by assumption) ?_
          rotate_left
          · intro w hSw; (try dsimp only at hSw); go_simp; (try with_reducible rfl)
          try simp only [Act.put, List.setIfInBounds_toArray, List.set_cons_zero, List.set_cons_succ]
          refine wpAnyH_take (i := 10) (oi := ⟨some 202, _, _, _, _, some (9, true)⟩) (v := undef) rfl (by kernel_rfl) (by kernel_rfl) (by kernel_rfl) (fun _ _ _ h => h) (Or.inr ⟨by rfl, rfl⟩) (by assumption) ?_
          try simp only [Act.put, List.setIfInBounds_toArray, List.set_cons_zero, List.set_cons_succ]
          refine wpAnyH_take (i := 11) (oi := ⟨some 203, _, _, _, _, some (9, true)⟩) (v := undef) rfl (by kernel_rfl) (by kernel_rfl) (by kernel_rfl) (fun _ _ _ h => h) (Or.inr ⟨by rfl, rfl⟩) (by assumption) ?_
          try simp only [Act.put, List.setIfInBounds_toArray, List.set_cons_zero, List.set_cons_succ]
          refine wpAnyH_take (i := 12) (oi := ⟨some 204, _, _, _, _, some (9, true)⟩) (v := undef) rfl (by kernel_rfl) (by kernel_rfl) (by kernel_rfl) (fun _ _ _ h => h) (Or.inr ⟨by rfl, rfl⟩) (by assumption) ?_
          try simp only [Act.put, List.setIfInBounds_toArray, List.set_cons_zero, List.set_cons_succ]
          refine wpAnyH_take (i := 13) (oi := ⟨some 205, _, _, _, _, some (9, true)⟩) (v := undef) rfl (by kernel_rfl) (by kernel_rfl) (by kernel_rfl) (fun _ _ _ h => h) (Or.inr ⟨by rfl, rfl⟩) (by assumption) ?_
          try simp only [Act.put, List.setIfInBounds_toArray, List.set_cons_zero, List.set_cons_succ]
          refine wpAnyH_take (i := 14) (oi := ⟨some 206, _, _, _, _, some (9, true)⟩) (v := undef) rfl (by kernel_rfl) (by kernel_rfl) (by kernel_rfl) (fun _ _ _ h => h) (Or.inr ⟨by rfl, rfl⟩) (by assumption) ?_
          try simp only [Act.put, List.setIfInBounds_toArray, List.set_cons_zero, List.set_cons_succ]
          refine wpAnyH_take (i := 15) (oi := ⟨some 207, _, _, _, _, some (9, true)⟩) (v := undef) rfl (by kernel_rfl) (by kernel_rfl) (by kernel_rfl) (fun _ _ _ h => h) (Or.inr ⟨by rfl, rfl⟩) (by assumption) ?_
          try simp only [Act.put, List.setIfInBounds_toArray, List.set_cons_zero, List.set_cons_succ]
          refine wpAnyH_take (i := 16) (oi := ⟨some 208, _, _, _, _, some (9, true)⟩) (v := undef) rfl (by kernel_rfl) (by kernel_rfl) (by kernel_rfl) (fun _ _ _ h => h) (Or.inr ⟨by rfl, rfl⟩) (by assumption) ?_
          try simp only [Act.put, List.setIfInBounds_toArray, List.set_cons_zero, List.set_cons_succ]
          refine wpAnyH_take (i := 17) (oi := ⟨some 209, _, _, _, _, some (9, true)⟩) (v := undef) rfl (by kernel_rfl) (by kernel_rfl) (by kernel_rfl) (fun _ _ _ h => h) (Or.inr ⟨by rfl, rfl⟩) (by assumption) ?_
          try simp only [Act.put, List.setIfInBounds_toArray, List.set_cons_zero, List.set_cons_succ]
          refine wpAnyH_take (i := 18) (oi := ⟨some 210, _, _, _, _, some (9, true)⟩) (v := undef) rfl (by kernel_rfl) (by kernel_rfl) (by kernel_rfl) (fun _ _ _ h => h) (Or.inr ⟨by rfl, rfl⟩) (by assumption) ?_
          try simp only [Act.put, List.setIfInBounds_toArray, List.set_cons_zero, List.set_cons_succ]
          refine wpAnyH_take (i := 19) (oi := ⟨some 211, _, _, _, _, none⟩) (v := (.bool false)) rfl (by kernel_rfl) (by kernel_rfl) (by kernel_rfl) (fun _ _ _ h => h) (Or.inl ⟨by rfl, ?_⟩) (by assumption) ?_
          · intro w hSw; (try dsimp only at hSw); go_simp; (try simp)
          try simp only [Act.put, List.setIfInBounds_toArray, List.set_cons_zero, List.set_cons_succ]
          clear hHeld
          refine wpAnyH_done (by kernel_rfl) ?_ _
          refine NoPanic.normal ?_
          go_wp2_with fail
          go_roundw
          case rel => exact ⟨k + 1, K', M', n', m', by omega, by omega, by go_num, by omega, by omega, PD⟩
          case measure => simp [intOf]; omega
        have e0 : decide (0 ≤ tt) = true := by simp; omega
        by_cases t1 : a0 ≤ tt
        · have e1 : decide (tt < a0) = false := by simp; omega
          refine wp_region_noPanic ?_
          refine wp_region_held_drew (S := fun c => Hid (c.heap[xb]? = some (.cells #[.int .i64 a0, .slice (some ⟨g, 0, none⟩) hs.length cap, .map (some mbx)] 33 (0, 0))) ∧ Hid (c.heap[ab]? = some (.cells #[.int .i64 kd, .int .u64 ad, .int .i64 sz, .int .u64 x, .int .i64 tt, .int .i64 ff] 36 (0, 0)))) (by kernel_rfl) ?_ (fun hHeld => ?_)
          · exact ⟨PD.out.box, AD⟩
          generalize wc.drew = U at PD AD hHeld ⊢
          clear P2 AB2
          refine wpAnyH_take (i := 0) (oi := ⟨some 192, _, _, _, _, none⟩) (v := (.pointer (some ⟨ab, 4, none⟩))) rfl (by kernel_rfl) (by kernel_rfl) (by kernel_rfl) (fun _ _ _ h => h) (Or.inl ⟨by rfl, ?_⟩) (by assumption) ?_
          · intro w hSw; (try dsimp only at hSw); go_simp; (try simp)
          try simp only [Act.put, List.setIfInBounds_toArray, List.set_cons_zero, List.set_cons_succ]
          refine wpAnyH_take (i := 1) (oi := ⟨some 193, _, _, _, _, none⟩) (v := (.int .i64 tt)) rfl (by kernel_rfl) (by kernel_rfl) (by kernel_rfl) (fun _ _ _ h => h) (Or.inl ⟨by rfl, ?_⟩) (by assumption) ?_
          · intro w hSw; (try dsimp only at hSw); have q4 : w.cell? ⟨ab, 4, none⟩ = some (.int .i64 tt) := Go.Joins.cell_of_block hSw.2.out 4; go_simp; (try simp)
          try simp only [Act.put, List.setIfInBounds_toArray, List.set_cons_zero, List.set_cons_succ]
          refine wpAnyH_take (i := 2) (oi := ⟨some 194, _, _, _, _, none⟩) (v := (.bool true)) rfl (by kernel_rfl) (by kernel_rfl) (by kernel_rfl) (fun _ _ _ h => h) (Or.inl ⟨by rfl, ?_⟩) (by assumption) ?_
          · intro w hSw; (try dsimp only at hSw); go_simp; (try simp)
          try simp only [Act.put, List.setIfInBounds_toArray, List.set_cons_zero, List.set_cons_succ]
          refine wpAnyH_take (i := 3) (oi := ⟨some 195, _, _, _, _, none⟩) (v := ?_) rfl (by kernel_rfl) (by kernel_rfl) (by kernel_rfl) (fun _ _ _ h => h) (Or.inl ⟨by rfl, ?_⟩) (by assumption) ?_
          rotate_left
          · intro w hSw; (try dsimp only at hSw); go_simp; (try with_reducible rfl)
          try simp only [Act.put, List.setIfInBounds_toArray, List.set_cons_zero, List.set_cons_succ]
          refine wpAnyH_take (i := 4) (oi := ⟨some 196, _, _, _, _, some (3, true)⟩) (v := (.pointer (some ⟨ab, 4, none⟩))) rfl (by kernel_rfl) (by kernel_rfl) (by kernel_rfl) (fun _ _ _ h => h) (Or.inl ⟨by rfl, ?_⟩) (by assumption) ?_
          · intro w hSw; (try dsimp only at hSw); go_simp; (try simp)
          try simp only [Act.put, List.setIfInBounds_toArray, List.set_cons_zero, List.set_cons_succ]
          refine wpAnyH_take (i := 5) (oi := ⟨some 197, _, _, _, _, some (3, true)⟩) (v := (.int .i64 tt)) rfl (by kernel_rfl) (by kernel_rfl) (by kernel_rfl) (fun _ _ _ h => h) (Or.inl ⟨by rfl, ?_⟩) (by assumption) ?_
          · intro w hSw; (try dsimp only at hSw); have q4 : w.cell? ⟨ab, 4, none⟩ = some (.int .i64 tt) := Go.Joins.cell_of_block hSw.2.out 4; go_simp; (try simp)
          try simp only [Act.put, List.setIfInBounds_toArray, List.set_cons_zero, List.set_cons_succ]
          refine wpAnyH_take (i := 6) (oi := ⟨some 198, _, _, _, _, some (3, true)⟩) (v := ?_) rfl (by kernel_rfl) (by kernel_rfl) (by kernel_rfl) (fun _ _ _ h => h) (Or.inl ⟨by rfl, ?_⟩) (by assumption) ?_
          rotate_left
          · intro w hSw; (try dsimp only at hSw); go_simp; (try with_reducible rfl)
          try simp only [Act.put, List.setIfInBounds_toArray, List.set_cons_zero, List.set_cons_succ]
          refine wpAnyH_take (i := 7) (oi := ⟨some 199, _, _, _, _, some (3, true)⟩) (v := (.bool false)) rfl (by kernel_rfl) (by kernel_rfl) (by kernel_rfl) (fun _ _ _ h => h) (Or.inl ⟨by rfl, ?_⟩) (by assumption) ?_
          · intro w hSw; (try dsimp only at hSw); go_simp; (try simp)
          try simp only [Act.put, List.setIfInBounds_toArray, List.set_cons_zero, List.set_cons_succ]
          refine wpAnyH_take (i := 8) (oi := ⟨some 200, _, _, _, _, none⟩) (v := (.bool false)) rfl (by kernel_rfl) (by kernel_rfl) (by kernel_rfl) (fun _ _ _ h => h) (Or.inl ⟨by rfl, ?_⟩) (by assumption) ?_
          · intro w hSw; (try dsimp only at hSw); go_simp; (try simp)
          try simp only [Act.put, List.setIfInBounds_toArray, List.set_cons_zero, List.set_cons_succ]
          refine wpAnyH_take (i := 9) (oi := ⟨some 201, _, _, _, _, none⟩) (v := ?_) rfl (by kernel_rfl) (by kernel_rfl) (by kernel_rfl) (fun _ _ _ h => h) (Or.inl ⟨by rfl, ?_⟩) (by assumption) ?_
          rotate_left
          · intro w hSw; (try dsimp only at hSw); go_simp; (try with_reducible rfl)
          try simp only [Act.put, List.setIfInBounds_toArray, List.set_cons_zero, List.set_cons_succ]
          refine wpAnyH_take (i := 10) (oi := ⟨some 202, _, _, _, _, some (9, true)⟩) (v := undef) rfl (by kernel_rfl) (by kernel_rfl) (by kernel_rfl) (fun _ _ _ h => h) (Or.inr ⟨by rfl, rfl⟩) (by assumption) ?_
          try simp only [Act.put, List.setIfInBounds_toArray, List.set_cons_zero, List.set_cons_succ]
          refine wpAnyH_take (i := 11) (oi := ⟨some 203, _, _, _, _, some (9, true)⟩) (v := undef) rfl (by kernel_rfl) (by kernel_rfl) (by kernel_rfl) (fun _ _ _ h => h) (Or.inr ⟨by rfl, rfl⟩) (by assumption) ?_
          try simp only [Act.put, List.setIfInBounds_toArray, List.set_cons_zero, List.set_cons_succ]
          refine wpAnyH_take (i := 12) (oi := ⟨some 204, _, _, _, _, some (9, true)⟩) (v := undef) rfl (by kernel_rfl) (by kernel_rfl) (by kernel_rfl) (fun _ _ _ h => h) (Or.inr ⟨by rfl, rfl⟩) (by assumption) ?_
          try simp only [Act.put, List.setIfInBounds_toArray, List.set_cons_zero, List.set_cons_succ]
          refine wpAnyH_take (i := 13) (oi := ⟨some 205, _, _, _, _, some (9, true)⟩) (v := undef) rfl (by kernel_rfl) (by kernel_rfl) (by kernel_rfl) (fun _ _ _ h => h) (Or.inr ⟨by rfl, rfl⟩) (by assumption) ?_
          try simp only [Act.put, List.setIfInBounds_toArray, List.set_cons_zero, List.set_cons_succ]
          refine wpAnyH_take (i := 14) (oi := ⟨some 206, _, _, _, _, some (9, true)⟩) (v := undef) rfl (by kernel_rfl) (by kernel_rfl) (by kernel_rfl) (fun _ _ _ h => h) (Or.inr ⟨by rfl, rfl⟩) (by assumption) ?_
          try simp only [Act.put, List.setIfInBounds_toArray, List.set_cons_zero, List.set_cons_succ]
          refine wpAnyH_take (i := 15) (oi := ⟨some 207, _, _, _, _, some (9, true)⟩) (v := undef) rfl (by kernel_rfl) (by kernel_rfl) (by kernel_rfl) (fun _ _ _ h => h) (Or.inr ⟨by rfl, rfl⟩) (by assumption) ?_
          try simp only [Act.put, List.setIfInBounds_toArray, List.set_cons_zero, List.set_cons_succ]
          refine wpAnyH_take (i := 16) (oi := ⟨some 208, _, _, _, _, some (9, true)⟩) (v := undef) rfl (by kernel_rfl) (by kernel_rfl) (by kernel_rfl) (fun _ _ _ h => h) (Or.inr ⟨by rfl, rfl⟩) (by assumption) ?_
          try simp only [Act.put, List.setIfInBounds_toArray, List.set_cons_zero, List.set_cons_succ]
          refine wpAnyH_take (i := 17) (oi := ⟨some 209, _, _, _, _, some (9, true)⟩) (v := undef) rfl (by kernel_rfl) (by kernel_rfl) (by kernel_rfl) (fun _ _ _ h => h) (Or.inr ⟨by rfl, rfl⟩) (by assumption) ?_
          try simp only [Act.put, List.setIfInBounds_toArray, List.set_cons_zero, List.set_cons_succ]
          refine wpAnyH_take (i := 18) (oi := ⟨some 210, _, _, _, _, some (9, true)⟩) (v := undef) rfl (by kernel_rfl) (by kernel_rfl) (by kernel_rfl) (fun _ _ _ h => h) (Or.inr ⟨by rfl, rfl⟩) (by assumption) ?_
          try simp only [Act.put, List.setIfInBounds_toArray, List.set_cons_zero, List.set_cons_succ]
          refine wpAnyH_take (i := 19) (oi := ⟨some 211, _, _, _, _, none⟩) (v := (.bool false)) rfl (by kernel_rfl) (by kernel_rfl) (by kernel_rfl) (fun _ _ _ h => h) (Or.inl ⟨by rfl, ?_⟩) (by assumption) ?_
          · intro w hSw; (try dsimp only at hSw); go_simp; (try simp)
          try simp only [Act.put, List.setIfInBounds_toArray, List.set_cons_zero, List.set_cons_succ]
          clear hHeld
          refine wpAnyH_done (by kernel_rfl) ?_ _
          refine NoPanic.normal ?_
          go_wp2_with fail
          go_roundw
          case rel => exact ⟨k + 1, K', M', n', m', by omega, by omega, by go_num, by omega, by omega, PD⟩
          case measure => simp [intOf]; omega
        have e1 : decide (tt < a0) = true := by simp; omega
        obtain ⟨cb, hcb⟩ : ∃ cb, cb = clr M' tt := ⟨_, rfl⟩
        have C1 : Hid (∀ W : World, Play w W K' S rb a0 hs g cap mbx xb M' M' n' m' → Calls Try.prog 18 #[.pointer (some ⟨rb, 0, none⟩), .int .i64 tt] W fun e w' => e = .returned (.bool cb) ∧ w' = W) := fun W h => by rw [hcb]; exact clear_any h.ram.ram.ram tt ft0 ft1
        have C2 : Hid (∀ W : World, Play w W K' S rb a0 hs g cap mbx xb M' M' n' m' → Calls Try.prog 19 #[.agg #[.int .i64 a0, .slice (some ⟨g, 0, none⟩) hs.length cap, .map (some mbx)], .int .i64 tt] W fun e w' => e = .returned (.bool cb) ∧ Below W.heap.size W w') := fun W h => by rw [hcb]; exact rclear_any a0 (.slice (some ⟨g, 0, none⟩) hs.length cap) mbx m' M' tt (by omega) (by omega) W h.mem rfl
        have cc : (cb != cb) = false := by simp
        clear hcb
        refine wp_region_noPanic ?_
        refine wp_region_held_drew (S := fun c => Hid (c.heap[xb]? = some (.cells #[.int .i64 a0, .slice (some ⟨g, 0, none⟩) hs.length cap, .map (some mbx)] 33 (0, 0))) ∧ Hid (c.heap[ab]? = some (.cells #[.int .i64 kd, .int .u64 ad, .int .i64 sz, .int .u64 x, .int .i64 tt, .int .i64 ff] 36 (0, 0)))) (by kernel_rfl) ?_ (fun hHeld => ?_)
        · exact ⟨PD.out.box, AD⟩
        generalize wc.drew = U at PD AD hHeld ⊢
        clear P2 AB2
        refine wpAnyH_take (i := 0) (oi := ⟨some 192, _, _, _, _, none⟩) (v := (.pointer (some ⟨ab, 4, none⟩))) rfl (by kernel_rfl) (by kernel_rfl) (by kernel_rfl) (fun _ _ _ h => h) (Or.inl ⟨by rfl, ?_⟩) (by assumption) ?_
        · intro w hSw; (try dsimp only at hSw); go_simp; (try simp)
        try simp only [Act.put, List.setIfInBounds_toArray, List.set_cons_zero, List.set_cons_succ]
        refine wpAnyH_take (i := 1) (oi := ⟨some 193, _, _, _, _, none⟩) (v := (.int .i64 tt)) rfl (by kernel_rfl) (by kernel_rfl) (by kernel_rfl) (fun _ _ _ h => h) (Or.inl ⟨by rfl, ?_⟩) (by assumption) ?_
        · intro w hSw; (try dsimp only at hSw); have q4 : w.cell? ⟨ab, 4, none⟩ = some (.int .i64 tt) := Go.Joins.cell_of_block hSw.2.out 4; go_simp; (try simp)
        try simp only [Act.put, List.setIfInBounds_toArray, List.set_cons_zero, List.set_cons_succ]
        refine wpAnyH_take (i := 2) (oi := ⟨some 194, _, _, _, _, none⟩) (v := (.bool true)) rfl (by kernel_rfl) (by kernel_rfl) (by kernel_rfl) (fun _ _ _ h => h) (Or.inl ⟨by rfl, ?_⟩) (by assumption) ?_
        · intro w hSw; (try dsimp only at hSw); go_simp; (try simp)
        try simp only [Act.put, List.setIfInBounds_toArray, List.set_cons_zero, List.set_cons_succ]
        refine wpAnyH_take (i := 3) (oi := ⟨some 195, _, _, _, _, none⟩) (v := ?_) rfl (by kernel_rfl) (by kernel_rfl) (by kernel_rfl) (fun _ _ _ h => h) (Or.inl ⟨by rfl, ?_⟩) (by assumption) ?_
        rotate_left
        · intro w hSw; (try dsimp only at hSw); go_simp; (try with_reducible rfl)
        try simp only [Act.put, List.setIfInBounds_toArray, List.set_cons_zero, List.set_cons_succ]
        refine wpAnyH_take (i := 4) (oi := ⟨some 196, _, _, _, _, some (3, true)⟩) (v := (.pointer (some ⟨ab, 4, none⟩))) rfl (by kernel_rfl) (by kernel_rfl) (by kernel_rfl) (fun _ _ _ h => h) (Or.inl ⟨by rfl, ?_⟩) (by assumption) ?_
        · intro w hSw; (try dsimp only at hSw); go_simp; (try simp)
        try simp only [Act.put, List.setIfInBounds_toArray, List.set_cons_zero, List.set_cons_succ]
        refine wpAnyH_take (i := 5) (oi := ⟨some 197, _, _, _, _, some (3, true)⟩) (v := (.int .i64 tt)) rfl (by kernel_rfl) (by kernel_rfl) (by kernel_rfl) (fun _ _ _ h => h) (Or.inl ⟨by rfl, ?_⟩) (by assumption) ?_
        · intro w hSw; (try dsimp only at hSw); have q4 : w.cell? ⟨ab, 4, none⟩ = some (.int .i64 tt) := Go.Joins.cell_of_block hSw.2.out 4; go_simp; (try simp)
        try simp only [Act.put, List.setIfInBounds_toArray, List.set_cons_zero, List.set_cons_succ]
        refine wpAnyH_take (i := 6) (oi := ⟨some 198, _, _, _, _, some (3, true)⟩) (v := ?_) rfl (by kernel_rfl) (by kernel_rfl) (by kernel_rfl) (fun _ _ _ h => h) (Or.inl ⟨by rfl, ?_⟩) (by assumption) ?_
        rotate_left
        · intro w hSw; (try dsimp only at hSw); go_simp; (try with_reducible rfl)
        try simp only [Act.put, List.setIfInBounds_toArray, List.set_cons_zero, List.set_cons_succ]
        refine wpAnyH_take (i := 7) (oi := ⟨some 199, _, _, _, _, some (3, true)⟩) (v := (.bool true)) rfl (by kernel_rfl) (by kernel_rfl) (by kernel_rfl) (fun _ _ _ h => h) (Or.inl ⟨by rfl, ?_⟩) (by assumption) ?_
        · intro w hSw; (try dsimp only at hSw); go_simp; (try simp)
        try simp only [Act.put, List.setIfInBounds_toArray, List.set_cons_zero, List.set_cons_succ]
        refine wpAnyH_take (i := 8) (oi := ⟨some 200, _, _, _, _, none⟩) (v := (.bool true)) rfl (by kernel_rfl) (by kernel_rfl) (by kernel_rfl) (fun _ _ _ h => h) (Or.inl ⟨by rfl, ?_⟩) (by assumption) ?_
        · intro w hSw; (try dsimp only at hSw); go_simp; (try simp)
        try simp only [Act.put, List.setIfInBounds_toArray, List.set_cons_zero, List.set_cons_succ]
        refine wpAnyH_take (i := 9) (oi := ⟨some 201, _, _, _, _, none⟩) (v := ?_) rfl (by kernel_rfl) (by kernel_rfl) (by kernel_rfl) (fun _ _ _ h => h) (Or.inl ⟨by rfl, ?_⟩) (by assumption) ?_
        rotate_left
        · intro w hSw; (try dsimp only at hSw); go_simp; (try with_reducible rfl)
        try simp only [Act.put, List.setIfInBounds_toArray, List.set_cons_zero, List.set_cons_succ]
        refine wpAnyH_take (i := 10) (oi := ⟨some 202, _, _, _, _, some (9, true)⟩) (v := ?_) rfl (by kernel_rfl) (by kernel_rfl) (by kernel_rfl) (fun _ _ _ h => h) (Or.inl ⟨by rfl, ?_⟩) (by assumption) ?_
        rotate_left
        · intro w hSw; (try dsimp only at hSw); go_simp; (try with_reducible rfl)
        try simp only [Act.put, List.setIfInBounds_toArray, List.set_cons_zero, List.set_cons_succ]
        refine wpAnyH_take (i := 11) (oi := ⟨some 203, _, _, _, _, some (9, true)⟩) (v := (.pointer (some ⟨ab, 4, none⟩))) rfl (by kernel_rfl) (by kernel_rfl) (by kernel_rfl) (fun _ _ _ h => h) (Or.inl ⟨by rfl, ?_⟩) (by assumption) ?_
        · intro w hSw; (try dsimp only at hSw); go_simp; (try simp)
        try simp only [Act.put, List.setIfInBounds_toArray, List.set_cons_zero, List.set_cons_succ]
        refine wpAnyH_take (i := 12) (oi := ⟨some 204, _, _, _, _, some (9, true)⟩) (v := (.int .i64 tt)) rfl (by kernel_rfl) (by kernel_rfl) (by kernel_rfl) (fun _ _ _ h => h) (Or.inl ⟨by rfl, ?_⟩) (by assumption) ?_
        · intro w hSw; (try dsimp only at hSw); have q4 : w.cell? ⟨ab, 4, none⟩ = some (.int .i64 tt) := Go.Joins.cell_of_block hSw.2.out 4; go_simp; (try simp)
        try simp only [Act.put, List.setIfInBounds_toArray, List.set_cons_zero, List.set_cons_succ]
        refine wpAnyH_take (i := 14) (oi := ⟨some 206, _, _, _, _, some (9, true)⟩) (v := (.agg #[.int .i64 a0, .slice (some ⟨g, 0, none⟩) hs.length cap, .map (some mbx)])) rfl (by kernel_rfl) (by kernel_rfl) (by kernel_rfl) (fun _ _ _ h => h) (Or.inl ⟨by rfl, ?_⟩) (by assumption) ?_
        · intro w hSw; (try dsimp only at hSw); have q0 : w.cell? ⟨xb, 0, none⟩ = some (.int .i64 a0) := Go.Joins.cell_of_block hSw.1.out 0; have q1 : w.cell? ⟨xb, 1, none⟩ = some (.slice (some ⟨g, 0, none⟩) hs.length cap) := Go.Joins.cell_of_block hSw.1.out 1; have q2 : w.cell? ⟨xb, 2, none⟩ = some (.map (some mbx)) := Go.Joins.cell_of_block hSw.1.out 2; go_simp; (try simp)
        try simp only [Act.put, List.setIfInBounds_toArray, List.set_cons_zero, List.set_cons_succ]
        refine wpAnyH_take (i := 15) (oi := ⟨some 207, _, _, _, _, some (9, true)⟩) (v := (.pointer (some ⟨ab, 4, none⟩))) rfl (by kernel_rfl) (by kernel_rfl) (by kernel_rfl) (fun _ _ _ h => h) (Or.inl ⟨by rfl, ?_⟩) (by assumption) ?_
        · intro w hSw; (try dsimp only at hSw); go_simp; (try simp)
        try simp only [Act.put, List.setIfInBounds_toArray, List.set_cons_zero, List.set_cons_succ]
        refine wpAnyH_take (i := 16) (oi := ⟨some 208, _, _, _, _, some (9, true)⟩) (v := (.int .i64 tt)) rfl (by kernel_rfl) (by kernel_rfl) (by kernel_rfl) (fun _ _ _ h => h) (Or.inl ⟨by rfl, ?_⟩) (by assumption) ?_
        · intro w hSw; (try dsimp only at hSw); have q4 : w.cell? ⟨ab, 4, none⟩ = some (.int .i64 tt) := Go.Joins.cell_of_block hSw.2.out 4; go_simp; (try simp)
        try simp only [Act.put, List.setIfInBounds_toArray, List.set_cons_zero, List.set_cons_succ]
        refine wpAnyH_ready (rs := [13]) (by kernel_rfl) (by simp) ?_
        refine AllReadyH.cons (o := ⟨some 205, _, _, _, _, some (9, true)⟩) rfl (fun K hK => ?_) AllReadyH.nil
        go_simp
        go_wp2_with (go_at_call 18; refine (C1.out _ PD.out).mono ?_; rintro e v1 ⟨rfl, hu⟩)
        clear hHeld
        refine hK.out _ _ ⟨PD.out.box, AD⟩ (fun hHeld => ?_)
        clear hK K
        try simp only [Act.put, List.setIfInBounds_toArray, List.set_cons_zero, List.set_cons_succ]
        refine wpAnyH_ready (rs := [17]) (by kernel_rfl) (by simp) ?_
        refine AllReadyH.cons (o := ⟨some 209, _, _, _, _, some (9, true)⟩) rfl (fun K hK => ?_) AllReadyH.nil
        go_simp
        go_wp2_with (go_at_call 19; refine (C2.out _ PD.out).mono ?_; rintro e v2 ⟨rfl, hb⟩)
        have PE : Hid (Play w v2 K' S rb a0 hs g cap mbx xb M' M' n' m') := PD.out.grow (below_g0 hb)
        have AE : Hid (v2.heap[ab]? = some (.cells #[.int .i64 kd, .int .u64 ad, .int .i64 sz, .int .u64 x, .int .i64 tt, .int .i64 ff] 36 (0, 0))) := (hb.block ab (blk_lt2 AD.out)).trans AD.out
        clear hb hHeld
        refine hK.out _ _ ⟨PE.out.box, AE⟩ (fun hHeld => ?_)
        clear hK K
        try simp only [Act.put, List.setIfInBounds_toArray, List.set_cons_zero, List.set_cons_succ]
        refine wpAnyH_take (i := 18) (oi := ⟨some 210, _, _, _, _, some (9, true)⟩) (v := (.bool false)) rfl (by kernel_rfl) (by kernel_rfl) (by kernel_rfl) (fun _ _ _ h => h) (Or.inl ⟨by rfl, ?_⟩) (by assumption) ?_
        · intro w hSw; (try dsimp only at hSw); go_simp; (try simp)
        try simp only [Act.put, List.setIfInBounds_toArray, List.set_cons_zero, List.set_cons_succ]
        refine wpAnyH_take (i := 19) (oi := ⟨some 211, _, _, _, _, none⟩) (v := (.bool false)) rfl (by kernel_rfl) (by kernel_rfl) (by kernel_rfl) (fun _ _ _ h => h) (Or.inl ⟨by rfl, ?_⟩) (by assumption) ?_
        · intro w hSw; (try dsimp only at hSw); go_simp; (try simp)
        try simp only [Act.put, List.setIfInBounds_toArray, List.set_cons_zero, List.set_cons_succ]
        clear hHeld
        refine wpAnyH_done (by kernel_rfl) ?_ _
        refine NoPanic.normal ?_
        go_wp2_with fail
        go_roundw
        case rel => exact ⟨k + 1, K', M', n', m', by omega, by omega, by go_num, by omega, by omega, PE⟩
        case measure => simp [intOf]; omega

theorem own : ownKnob Try.prog.godebug = none := by kernel_rfl
theorem laidOut : laidOutB Try.prog = true := by kernel_rfl
set_option maxRecDepth 100000 in
theorem lifted (os : Os) (started : os.Started) (H : Type) (enc : TypeId × Value → H) :
    ReturnsInHanded {} Try.checked os 3 .any (Rows.ramPlaysSpec.pre6 enc Try.prog Try.f3 Rows.ramPlaysRow.domain false) (Rows.ramPlaysSpec.post enc Try.prog Try.f3 false true false false) := by
  refine returnsInHanded_of_change (C := Try.checked) own started (by kernel_rfl) Try.func3
    (ChangeSpec.witness6 (enc := enc) (C := Try.checked) false ⟨#[], #[.int .i64 0, .slice none 0 0, .slice none 0 0], []⟩ 8 (by kernel_rfl) (by kernel_rfl) (by kernel_rfl) (by kernel_rfl)) ?_
  intro W base args ds gs before hval0 hW hcnd _
  have hval : ∀ (j : Nat) t v, Try.f3.params[j]? = some t → args[j]? = some v → Value.okWide Try.prog W .any base t v := hval0
  have hW' := hW
  obtain ⟨p, q, hA0, hV, hbef, hfz, hnd⟩ := hW
  have hA : DataW.TrodAll enc Try.prog W 0 (fun _ => true) true Try.f3.params.toList args.toList ds p := hA0
  have hAk := hA
  have hlt : ∀ x ∈ p, x.block < W.heap.size := fun x hx => hW'.lt x (by rw [hbef]; exact List.mem_append_left _ hx)
  rw [Try.params3] at hA hval
  obtain ⟨v0, vs0, d0, ds0, p0, q0, hargs, rfl, hp0, h0, r0⟩ := trodAll_cons hA
  obtain ⟨v1, vs1, d1, ds1, p1, q1, rfl, rfl, hp1, h1, r1⟩ := trodAll_cons r0
  obtain ⟨v2, vs2, d2, ds2, p2, q2, rfl, rfl, hp2, h2, r2⟩ := trodAll_cons r1
  obtain ⟨rfl, rfl, hpz⟩ := trodAll_nil r2
  obtain rfl : args = #[v0, v1, v2] := by cases args; simp_all
  obtain ⟨rfl, rfl⟩ := trodVars_none hV
  obtain ⟨a0, rfl, _, _, w0⟩ := open_int Try.underlying3 (hval 0 3 v0 rfl rfl) h0
  obtain ⟨p1, n1, c1, F1, rfl, m1, l1, H1⟩ := open_rgs (hval 1 22 v1 rfl rfl) h1
  obtain ⟨p2, n2, c2, A2, rfl, m2, H2⟩ := open_acts (hval 2 23 v2 rfl rfl) h2
  clear hA0 hval0
  refine (walk a0 w0 p1 n1 c1 F1 m1 l1 p2 n2 c2 A2 m2 W H1 H2).mono fun e W' ⟨he, hg⟩ => ?_
  subst he
  exact ⟨_, rfl, ⟨_, _, _, [], p, [], hW', (trodAll_cons_mk (shut_bool Try.underlying4 _) trodAll_mk0), args_stay laidOut hg (by kernel_rfl) hAk hlt, rfl, hg.frame _, fun h => by cases h⟩⟩

theorem over : Rows.ramPlaysRow.holds Try.pinned (OpenSpec.ofChange Rows.ramPlaysSpec) :=
  OpenClaim.holds_of_wide 3 Try.f3 rfl rfl rfl rfl rfl rfl rfl ⟨rfl, rfl, rfl, rfl, rfl⟩ rfl rfl rfl rfl rfl (by kernel_rfl) Try.func3 (by kernel_rfl)
    (of_decide_eq_true (by kernel_rfl)) (by unfold Func.isWrapper; first | (rw [if_pos (by decide +kernel)]; kernel_rfl) | (rw [if_neg (by decide +kernel)]; exact ⟨rfl, rfl⟩))
    (fun os started H enc _ => lifted os started H enc)

theorem proved : Rows.RamPlaysSaid :=
  over
#print axioms proved
end Go.Proofs.Ytdfalincdgdlcaa.ramPlays
