/- Same: memories that have the same bytes. -/
import Derived.Test.YtkbkikbcpllknaaDoorV3
namespace Go.Proofs.YtkbkikbcpllknaaDoor
open Go.ChangeShapes Go.WideShapes Go.ChangeAt Go.RowKit Go.Maps
set_option linter.unusedSimpArgs false
set_option linter.unusedVariables false
set_option maxRecDepth 8000

theorem none_below {w w' : World} (h : w.grownBy w' none) : Below w.heap.size w w' := ⟨h.os, h.tape, h.output, h.size, fun k hk => h.block k hk (by simp)⟩
set_option maxHeartbeats 8000000 in
theorem same_any {w0 W : World} {K : Nat → Prop} {S : List Nat} {rb g mb xb nn mm0 : Nat} {M : Int → Int} (h : Play w0 W K S rb 8 [(7, 8)] g 1 mb xb M M nn mm0) (p : Option Addr) (n c : Nat) (A : Nat → Pt) (hn : n ≤ maxLen) (hA : IsPuts W p n A) :
    Calls Tryd.prog 13 #[.pointer (some ⟨rb, 0, none⟩), .agg #[.int .i64 8, .slice (some ⟨g, 0, none⟩) 1 1, .map (some mb)], .slice p n c] W fun e w' => e = .returned (.int .i64 0) ∧ Below W.heap.size W w' := by
  have HA : Hid (IsPuts W p n A) := hA
  have HP : Hid (Play w0 W K S rb 8 [(7, 8)] g 1 mb xb M M nn mm0) := h
  have hM : ∀ t, 0 ≤ M t ∧ M t < 256 := h.ram.ram.byte
  have HM : Hid (∀ t, 0 ≤ M t ∧ M t < 256) := hM
  clear hA h hM
  have mm : (n : Int) ≤ 9223372036854775807 := by have : maxLen ≤ 9223372036854775807 := by decide +kernel
                                                  omega
  have XB : Hid (Blk (W.alloc (.cells #[.int .i64 8, .slice (some ⟨g, 0, none⟩) 1 1, .map (some mb)] 28)) W.heap.size [.int .i64 8, .slice (some ⟨g, 0, none⟩) 1 1, .map (some mb)] 28) := Blk.made W _ _
  have BB : Hid (Below W.heap.size W (W.alloc (.cells #[.int .i64 8, .slice (some ⟨g, 0, none⟩) 1 1, .map (some mb)] 28))) := Go.Joins.below_alloc1 _ _
  go_enter Tryd.func13, Tryd.ntmps13
  go_wp2_with fail
  go_loopw [7] (fun v V => ∃ (k : Nat), k ≤ n ∧ k ≤ 40 ∧ v = .int .i64 k ∧ Hid (Below W.heap.size W V) ∧ Hid (Blk V W.heap.size [.int .i64 8, .slice (some ⟨g, 0, none⟩) 1 1, .map (some mb)] 28)) (fun v _ => 40 - (intOf v).toNat)
  case atStart => exact ⟨0, by omega, by omega, rfl, BB, XB⟩
  case round =>
    clear XB BB
    obtain ⟨k, hk, hk4, rfl, hB, hX⟩ := hrel
    by_cases hlt : k < n
    rotate_left
    · have hd : decide ((k : Int) < (n : Int)) = false := by simp; omega
      go_wp2_with fail
      go_ret
      exact ⟨rfl, hB.out⟩
    have hd : decide ((k : Int) < (n : Int)) = true := by simp; omega
    by_cases hl4 : k < 40
    rotate_left
    · have hd2 : decide ((k : Int) < 40) = false := by simp; omega
      go_wp2_with fail
      go_ret
      exact ⟨rfl, hB.out⟩
    have hd2 : decide ((k : Int) < 40) = true := by simp; omega
    have hd0 : decide ((k : Int) < 0) = false := by simp
    obtain ⟨bq, oq, rfl, lq, y0, y1, y2, gx⟩ := HA.out k hlt
    have z0 : wr.cell? ⟨bq, oq + k * 3, none⟩ = some (.int .i64 (A k).fr) := (World.cell?_of_block (hB.out.block bq lq)).trans y0
    have z1 : wr.cell? ⟨bq, oq + k * 3 + 1, none⟩ = some (.int .i64 (A k).at') := (World.cell?_of_block (hB.out.block bq lq)).trans y1
    have z2 : wr.cell? ⟨bq, oq + k * 3 + 2, none⟩ = some (.int .u64 (A k).x) := (World.cell?_of_block (hB.out.block bq lq)).trans y2
    have lq2 : bq < wr.heap.size := Nat.lt_of_lt_of_le lq hB.out.size
    clear y0 y1 y2
    generalize A k = pt at z0 z1 z2 gx
    obtain ⟨fr, a, x⟩ := pt
    simp only at z0 z1 z2 gx
    have BA : Hid (Below W.heap.size W (wr.alloc (.cells #[.int .i64 fr, .int .i64 a, .int .u64 x] 60))) := below_new hB.out _
    have XA : Hid (Blk (wr.alloc (.cells #[.int .i64 fr, .int .i64 a, .int .u64 x] 60)) W.heap.size [.int .i64 8, .slice (some ⟨g, 0, none⟩) 1 1, .map (some mb)] 28) := Blk.below hX.out (Go.Joins.below_alloc1 _ _)
    by_cases g0 : fr < 0
    · skip
      have d0 : decide (fr < 0) = true := decide_eq_true g0
      clear hX hB HA HP
      go_wp2_with fail
      go_roundw
      case rel => exact ⟨k + 1, by omega, by omega, by go_num, BA, XA⟩
      case measure => simp [intOf]; omega
    by_cases g1 : 6 < fr
    · skip
      have d0 : decide (fr < 0) = false := decide_eq_false g0
      have d1 : decide (6 < fr) = true := decide_eq_true g1
      clear hX hB HA HP
      go_wp2_with fail
      go_roundw
      case rel => exact ⟨k + 1, by omega, by omega, by go_num, BA, XA⟩
      case measure => simp [intOf]; omega
    by_cases g2 : a < 0
    · skip
      have d0 : decide (fr < 0) = false := decide_eq_false g0
      have d1 : decide (6 < fr) = false := decide_eq_false g1
      have d2 : decide (a < 0) = true := decide_eq_true g2
      clear hX hB HA HP
      go_wp2_with fail
      go_roundw
      case rel => exact ⟨k + 1, by omega, by omega, by go_num, BA, XA⟩
      case measure => simp [intOf]; omega
    by_cases g3 : 511 < a
    · skip
      have d0 : decide (fr < 0) = false := decide_eq_false g0
      have d1 : decide (6 < fr) = false := decide_eq_false g1
      have d2 : decide (a < 0) = false := decide_eq_false g2
      have d3 : decide (511 < a) = true := decide_eq_true g3
      clear hX hB HA HP
      go_wp2_with fail
      go_roundw
      case rel => exact ⟨k + 1, by omega, by omega, by go_num, BA, XA⟩
      case measure => simp [intOf]; omega
    have d0 : decide (fr < 0) = false := decide_eq_false g0
    have d1 : decide (6 < fr) = false := decide_eq_false g1
    have d2 : decide (a < 0) = false := decide_eq_false g2
    have d3 : decide (511 < a) = false := decide_eq_false g3
    have u1 : IntKind.u64.wrap fr = fr := by rw [IntKind.wrap_u64]; omega
    have u2 : IntKind.u64.wrap (fr * 4096) = fr * 4096 := by rw [IntKind.wrap_u64]; omega
    have u3 : IntKind.i64.wrap (8 * a) = 8 * a := by rw [IntKind.wrap_i64]; omega
    have u3' : wrap64 (8 * a) = 8 * a := by simp only [wrap64]; omega
    have u4 : IntKind.u64.wrap (8 * a) = 8 * a := by rw [IntKind.wrap_u64]; omega
    have u5 : IntKind.u64.wrap (fr * 4096 + 8 * a) = fr * 4096 + 8 * a := by rw [IntKind.wrap_u64]; omega
    have CK := chk_lay (f := fr) (a := a) (by omega) (by omega)
    rw [if_neg (by omega)] at CK
    obtain ⟨v, hv⟩ : ∃ v, v = ld M (fr * 4096 + 8 * a) 8 := ⟨_, rfl⟩
    have LK : Hid (Calls Tryd.prog 16 #[.pointer (some ⟨rb, 0, none⟩), .int .u64 (fr * 4096 + 8 * a), .int .i64 8] (wr.alloc (.cells #[.int .i64 fr, .int .i64 a, .int .u64 x] 60)) fun e w' => e = .returned (.tuple #[.int .u64 v, .int .i64 0]) ∧ (wr.alloc (.cells #[.int .i64 fr, .int .i64 a, .int .u64 x] 60)).grownBy w' none) := load_okG (HP.out.grow (below_g0 BA.out)).ram.ram.ram _ 8 v (by omega) (by omega) CK hv.symm
    have RK : Hid (∀ V : World, Below W.heap.size W V → Calls Tryd.prog 33 #[.agg #[.int .i64 8, .slice (some ⟨g, 0, none⟩) 1 1, .map (some mb)], .int .u64 (fr * 4096 + 8 * a), .int .i64 8] V fun e w' => e = .returned (.int .u64 v) ∧ Below V.heap.size V w') := fun V hb => by
      rw [hv]; exact rload_any 8 _ mb mm0 M (fr * 4096 + 8 * a) 8 (by omega) (by omega) (by omega) V (HP.out.grow (below_g0 hb)).mem rfl HM.out
    clear CK hv hX hB HA HP HM
    go_wp2_with fail
    refine LK.out.mono ?_
    rintro e q1 ⟨rfl, hg⟩
    have B1 : Hid (Below W.heap.size W q1) := below_next BA.out (none_below hg)
    have X1 : Hid (Blk q1 W.heap.size [.int .i64 8, .slice (some ⟨g, 0, none⟩) 1 1, .map (some mb)] 28) := Blk.below XA.out (none_below hg)
    have c0 : q1.cell? ⟨W.heap.size, 0, none⟩ = some (.int .i64 8) := Blk.cell X1.out 0
    have c1 : q1.cell? ⟨W.heap.size, 1, none⟩ = some (.slice (some ⟨g, 0, none⟩) 1 1) := Blk.cell X1.out 1
    have c2 : q1.cell? ⟨W.heap.size, 2, none⟩ = some (.map (some mb)) := Blk.cell X1.out 2
    clear hg LK BA XA z0 z1 z2
    go_wp2_with fail
    refine (RK.out _ B1.out).mono ?_
    rintro e q2 ⟨rfl, hb⟩
    have B2 : Hid (Below W.heap.size W q2) := below_next B1.out hb
    have X2 : Hid (Blk q2 W.heap.size [.int .i64 8, .slice (some ⟨g, 0, none⟩) 1 1, .map (some mb)] 28) := Blk.below X1.out hb
    have vv : (v != v) = false := by simp
    clear hb RK B1 X1 c0 c1 c2
    go_wp2_with fail
    go_roundw
    case rel => exact ⟨k + 1, by omega, by omega, by go_num, B2, X2⟩
    case measure => simp [intOf]; omega
end Go.Proofs.YtkbkikbcpllknaaDoor
