/- The contracts of ram's check and read. -/
import Derived.Test.YtkiclbnbnjbcaabDoorR1
namespace Go.Proofs.YtkiclbnbnjbcaabDoor
open Go.ChangeShapes Go.WideShapes Go.ChangeAt Go.RowKit Go.Maps
set_option linter.unusedSimpArgs false
set_option linter.unusedVariables false
set_option maxRecDepth 8000

/-- a memory's error of an access, without holes -/
def chk (F addr size : Int) : Int :=
  if size = 1 ∨ size = 2 ∨ size = 4 ∨ size = 8 then
    if addr + size ≤ 18446744073709551616 ∧ hasF F (addr / 4096) = true ∧ hasF F ((addr + size - 1) / 4096) = true then 0 else 2
  else 1


set_option maxHeartbeats 400000 in
theorem check_1 (rb : Nat) (F addr : Int) (w : World) (h0 : 0 ≤ addr) (h1 : addr < 18446744073709551616) (c0 : w.cell? ⟨rb, 0, none⟩ = some (.int .i64 F)) (c1 : w.cell? ⟨rb, 1, none⟩ = some (.slice none 0 0)) :
    Calls Tryd.prog 62 #[.pointer (some ⟨rb, 0, none⟩), .int .u64 addr, .int .i64 1] w fun e w' => e = .returned (.int .i64 (chk F addr 1)) ∧ w' = w := by
  have hh : Hid (∀ k (w : World), w.cell? ⟨rb, 0, none⟩ = some (.int .i64 F) → w.cell? ⟨rb, 1, none⟩ = some (.slice none 0 0) →
    Calls Tryd.prog 60 #[.pointer (some ⟨rb, 0, none⟩), .int .i64 k] w fun e w' => e = .returned (.bool (hasF F k)) ∧ w' = w) := fun k w a b => has_nil rb F k w a b
  have sz : (1 : Int) = 1 ∨ (1 : Int) = 2 ∨ (1 : Int) = 4 ∨ (1 : Int) = 8 := by omega
  by_cases o : addr + 1 ≤ 18446744073709551616
  · have el : addr + 1 - 1 = addr := by omega
    have hle : addr < 18446744073709551616 := by omega
    have hnl : ¬ addr < addr := by omega
    cases g1 : hasF F (addr / 4096)
    · have HC : Hid (chk F addr 1 = 2) := by show chk F addr 1 = 2; unfold chk; rw [if_pos sz, if_neg (by rw [g1]; simp)]
      clear el sz
      go_enter Tryd.func62, Tryd.ntmps62
      go_wp2_with (go_at_call 60; refine (hh.out _ _ c0 c1).mono ?_; rintro e w' ⟨rfl, rfl⟩)
      go_ret
      exact ⟨by rw [HC.out]; rfl, rfl⟩
    · cases g2 : hasF F ((addr) / 4096)
      · have HC : Hid (chk F addr 1 = 2) := by show chk F addr 1 = 2; unfold chk; rw [if_pos sz, el, if_neg (by rw [g2]; simp)]
        clear el sz
        rw [g1] at g2; cases g2
      · have HC : Hid (chk F addr 1 = 0) := by show chk F addr 1 = 0; unfold chk; rw [if_pos sz, el, if_pos ⟨o, g1, g2⟩]
        clear el sz
        go_enter Tryd.func62, Tryd.ntmps62
        go_wp2_with (go_at_call 60; refine (hh.out _ _ c0 c1).mono ?_; rintro e w' ⟨rfl, rfl⟩)
        go_ret
        exact ⟨by rw [HC.out]; rfl, rfl⟩
  · omega

set_option maxHeartbeats 400000 in
theorem check_2 (rb : Nat) (F addr : Int) (w : World) (h0 : 0 ≤ addr) (h1 : addr < 18446744073709551616) (c0 : w.cell? ⟨rb, 0, none⟩ = some (.int .i64 F)) (c1 : w.cell? ⟨rb, 1, none⟩ = some (.slice none 0 0)) :
    Calls Tryd.prog 62 #[.pointer (some ⟨rb, 0, none⟩), .int .u64 addr, .int .i64 2] w fun e w' => e = .returned (.int .i64 (chk F addr 2)) ∧ w' = w := by
  have hh : Hid (∀ k (w : World), w.cell? ⟨rb, 0, none⟩ = some (.int .i64 F) → w.cell? ⟨rb, 1, none⟩ = some (.slice none 0 0) →
    Calls Tryd.prog 60 #[.pointer (some ⟨rb, 0, none⟩), .int .i64 k] w fun e w' => e = .returned (.bool (hasF F k)) ∧ w' = w) := fun k w a b => has_nil rb F k w a b
  have sz : (2 : Int) = 1 ∨ (2 : Int) = 2 ∨ (2 : Int) = 4 ∨ (2 : Int) = 8 := by omega
  by_cases o : addr + 2 ≤ 18446744073709551616
  · have el : addr + 2 - 1 = addr + 1 := by omega
    have hle : addr + 1 < 18446744073709551616 := by omega
    have hnl : ¬ addr + 1 < addr := by omega
    cases g1 : hasF F (addr / 4096)
    · have HC : Hid (chk F addr 2 = 2) := by show chk F addr 2 = 2; unfold chk; rw [if_pos sz, if_neg (by rw [g1]; simp)]
      clear el sz
      go_enter Tryd.func62, Tryd.ntmps62
      go_wp2_with (go_at_call 60; refine (hh.out _ _ c0 c1).mono ?_; rintro e w' ⟨rfl, rfl⟩)
      go_ret
      exact ⟨by rw [HC.out]; rfl, rfl⟩
    · cases g2 : hasF F ((addr + 1) / 4096)
      · have HC : Hid (chk F addr 2 = 2) := by show chk F addr 2 = 2; unfold chk; rw [if_pos sz, el, if_neg (by rw [g2]; simp)]
        clear el sz
        go_enter Tryd.func62, Tryd.ntmps62
        go_wp2_with (go_at_call 60; refine (hh.out _ _ c0 c1).mono ?_; rintro e w' ⟨rfl, rfl⟩)
        go_ret
        exact ⟨by rw [HC.out]; rfl, rfl⟩
      · have HC : Hid (chk F addr 2 = 0) := by show chk F addr 2 = 0; unfold chk; rw [if_pos sz, el, if_pos ⟨o, g1, g2⟩]
        clear el sz
        go_enter Tryd.func62, Tryd.ntmps62
        go_wp2_with (go_at_call 60; refine (hh.out _ _ c0 c1).mono ?_; rintro e w' ⟨rfl, rfl⟩)
        go_ret
        exact ⟨by rw [HC.out]; rfl, rfl⟩
  · have HC : Hid (chk F addr 2 = 2) := by show chk F addr 2 = 2; unfold chk; rw [if_pos sz, if_neg (fun k => o k.1)]
    have hw : IntKind.u64.wrap (addr + 1) = addr + 1 - 18446744073709551616 := by rw [IntKind.wrap_u64]; omega
    have hl : addr + 1 - 18446744073709551616 < addr := by omega
    clear o sz
    go_enter Tryd.func62, Tryd.ntmps62
    go_wp2_with (go_at_call 60; refine (hh.out _ _ c0 c1).mono ?_; rintro e w' ⟨rfl, rfl⟩)
    go_ret
    exact ⟨by rw [HC.out]; rfl, rfl⟩

set_option maxHeartbeats 400000 in
theorem check_4 (rb : Nat) (F addr : Int) (w : World) (h0 : 0 ≤ addr) (h1 : addr < 18446744073709551616) (c0 : w.cell? ⟨rb, 0, none⟩ = some (.int .i64 F)) (c1 : w.cell? ⟨rb, 1, none⟩ = some (.slice none 0 0)) :
    Calls Tryd.prog 62 #[.pointer (some ⟨rb, 0, none⟩), .int .u64 addr, .int .i64 4] w fun e w' => e = .returned (.int .i64 (chk F addr 4)) ∧ w' = w := by
  have hh : Hid (∀ k (w : World), w.cell? ⟨rb, 0, none⟩ = some (.int .i64 F) → w.cell? ⟨rb, 1, none⟩ = some (.slice none 0 0) →
    Calls Tryd.prog 60 #[.pointer (some ⟨rb, 0, none⟩), .int .i64 k] w fun e w' => e = .returned (.bool (hasF F k)) ∧ w' = w) := fun k w a b => has_nil rb F k w a b
  have sz : (4 : Int) = 1 ∨ (4 : Int) = 2 ∨ (4 : Int) = 4 ∨ (4 : Int) = 8 := by omega
  by_cases o : addr + 4 ≤ 18446744073709551616
  · have el : addr + 4 - 1 = addr + 3 := by omega
    have hle : addr + 3 < 18446744073709551616 := by omega
    have hnl : ¬ addr + 3 < addr := by omega
    cases g1 : hasF F (addr / 4096)
    · have HC : Hid (chk F addr 4 = 2) := by show chk F addr 4 = 2; unfold chk; rw [if_pos sz, if_neg (by rw [g1]; simp)]
      clear el sz
      go_enter Tryd.func62, Tryd.ntmps62
      go_wp2_with (go_at_call 60; refine (hh.out _ _ c0 c1).mono ?_; rintro e w' ⟨rfl, rfl⟩)
      go_ret
      exact ⟨by rw [HC.out]; rfl, rfl⟩
    · cases g2 : hasF F ((addr + 3) / 4096)
      · have HC : Hid (chk F addr 4 = 2) := by show chk F addr 4 = 2; unfold chk; rw [if_pos sz, el, if_neg (by rw [g2]; simp)]
        clear el sz
        go_enter Tryd.func62, Tryd.ntmps62
        go_wp2_with (go_at_call 60; refine (hh.out _ _ c0 c1).mono ?_; rintro e w' ⟨rfl, rfl⟩)
        go_ret
        exact ⟨by rw [HC.out]; rfl, rfl⟩
      · have HC : Hid (chk F addr 4 = 0) := by show chk F addr 4 = 0; unfold chk; rw [if_pos sz, el, if_pos ⟨o, g1, g2⟩]
        clear el sz
        go_enter Tryd.func62, Tryd.ntmps62
        go_wp2_with (go_at_call 60; refine (hh.out _ _ c0 c1).mono ?_; rintro e w' ⟨rfl, rfl⟩)
        go_ret
        exact ⟨by rw [HC.out]; rfl, rfl⟩
  · have HC : Hid (chk F addr 4 = 2) := by show chk F addr 4 = 2; unfold chk; rw [if_pos sz, if_neg (fun k => o k.1)]
    have hw : IntKind.u64.wrap (addr + 3) = addr + 3 - 18446744073709551616 := by rw [IntKind.wrap_u64]; omega
    have hl : addr + 3 - 18446744073709551616 < addr := by omega
    clear o sz
    go_enter Tryd.func62, Tryd.ntmps62
    go_wp2_with (go_at_call 60; refine (hh.out _ _ c0 c1).mono ?_; rintro e w' ⟨rfl, rfl⟩)
    go_ret
    exact ⟨by rw [HC.out]; rfl, rfl⟩

set_option maxHeartbeats 400000 in
theorem check_8 (rb : Nat) (F addr : Int) (w : World) (h0 : 0 ≤ addr) (h1 : addr < 18446744073709551616) (c0 : w.cell? ⟨rb, 0, none⟩ = some (.int .i64 F)) (c1 : w.cell? ⟨rb, 1, none⟩ = some (.slice none 0 0)) :
    Calls Tryd.prog 62 #[.pointer (some ⟨rb, 0, none⟩), .int .u64 addr, .int .i64 8] w fun e w' => e = .returned (.int .i64 (chk F addr 8)) ∧ w' = w := by
  have hh : Hid (∀ k (w : World), w.cell? ⟨rb, 0, none⟩ = some (.int .i64 F) → w.cell? ⟨rb, 1, none⟩ = some (.slice none 0 0) →
    Calls Tryd.prog 60 #[.pointer (some ⟨rb, 0, none⟩), .int .i64 k] w fun e w' => e = .returned (.bool (hasF F k)) ∧ w' = w) := fun k w a b => has_nil rb F k w a b
  have sz : (8 : Int) = 1 ∨ (8 : Int) = 2 ∨ (8 : Int) = 4 ∨ (8 : Int) = 8 := by omega
  by_cases o : addr + 8 ≤ 18446744073709551616
  · have el : addr + 8 - 1 = addr + 7 := by omega
    have hle : addr + 7 < 18446744073709551616 := by omega
    have hnl : ¬ addr + 7 < addr := by omega
    cases g1 : hasF F (addr / 4096)
    · have HC : Hid (chk F addr 8 = 2) := by show chk F addr 8 = 2; unfold chk; rw [if_pos sz, if_neg (by rw [g1]; simp)]
      clear el sz
      go_enter Tryd.func62, Tryd.ntmps62
      go_wp2_with (go_at_call 60; refine (hh.out _ _ c0 c1).mono ?_; rintro e w' ⟨rfl, rfl⟩)
      go_ret
      exact ⟨by rw [HC.out]; rfl, rfl⟩
    · cases g2 : hasF F ((addr + 7) / 4096)
      · have HC : Hid (chk F addr 8 = 2) := by show chk F addr 8 = 2; unfold chk; rw [if_pos sz, el, if_neg (by rw [g2]; simp)]
        clear el sz
        go_enter Tryd.func62, Tryd.ntmps62
        go_wp2_with (go_at_call 60; refine (hh.out _ _ c0 c1).mono ?_; rintro e w' ⟨rfl, rfl⟩)
        go_ret
        exact ⟨by rw [HC.out]; rfl, rfl⟩
      · have HC : Hid (chk F addr 8 = 0) := by show chk F addr 8 = 0; unfold chk; rw [if_pos sz, el, if_pos ⟨o, g1, g2⟩]
        clear el sz
        go_enter Tryd.func62, Tryd.ntmps62
        go_wp2_with (go_at_call 60; refine (hh.out _ _ c0 c1).mono ?_; rintro e w' ⟨rfl, rfl⟩)
        go_ret
        exact ⟨by rw [HC.out]; rfl, rfl⟩
  · have HC : Hid (chk F addr 8 = 2) := by show chk F addr 8 = 2; unfold chk; rw [if_pos sz, if_neg (fun k => o k.1)]
    have hw : IntKind.u64.wrap (addr + 7) = addr + 7 - 18446744073709551616 := by rw [IntKind.wrap_u64]; omega
    have hl : addr + 7 - 18446744073709551616 < addr := by omega
    clear o sz
    go_enter Tryd.func62, Tryd.ntmps62
    go_wp2_with (go_at_call 60; refine (hh.out _ _ c0 c1).mono ?_; rintro e w' ⟨rfl, rfl⟩)
    go_ret
    exact ⟨by rw [HC.out]; rfl, rfl⟩

set_option maxHeartbeats 400000 in
theorem check_arg (rb : Nat) (F addr size : Int) (w : World) (h0 : 0 ≤ addr) (h1 : addr < 18446744073709551616) (c0 : w.cell? ⟨rb, 0, none⟩ = some (.int .i64 F)) (c1 : w.cell? ⟨rb, 1, none⟩ = some (.slice none 0 0)) (hs : ¬ (size = 1 ∨ size = 2 ∨ size = 4 ∨ size = 8)) :
    Calls Tryd.prog 62 #[.pointer (some ⟨rb, 0, none⟩), .int .u64 addr, .int .i64 size] w fun e w' => e = .returned (.int .i64 (chk F addr size)) ∧ w' = w := by
  have HC : Hid (chk F addr size = 1) := by show chk F addr size = 1; unfold chk; rw [if_neg hs]
  have b1 : (size == 1) = false := beq_eq_false_iff_ne.2 (by omega)
  have b2 : (size == 2) = false := beq_eq_false_iff_ne.2 (by omega)
  have b4 : (size == 4) = false := beq_eq_false_iff_ne.2 (by omega)
  have b8 : (size == 8) = false := beq_eq_false_iff_ne.2 (by omega)
  clear hs
  go_enter Tryd.func62, Tryd.ntmps62
  go_wp2
  go_ret
  exact ⟨by rw [HC.out]; rfl, rfl⟩
theorem check_nil (rb : Nat) (F addr size : Int) (w : World) (h0 : 0 ≤ addr) (h1 : addr < 18446744073709551616) (c0 : w.cell? ⟨rb, 0, none⟩ = some (.int .i64 F)) (c1 : w.cell? ⟨rb, 1, none⟩ = some (.slice none 0 0)) :
    Calls Tryd.prog 62 #[.pointer (some ⟨rb, 0, none⟩), .int .u64 addr, .int .i64 size] w fun e w' => e = .returned (.int .i64 (chk F addr size)) ∧ w' = w := by
  by_cases hs : size = 1 ∨ size = 2 ∨ size = 4 ∨ size = 8
  · rcases hs with rfl | rfl | rfl | rfl
    · exact check_1 rb F addr w h0 h1 c0 c1
    · exact check_2 rb F addr w h0 h1 c0 c1
    · exact check_4 rb F addr w h0 h1 c0 c1
    · exact check_8 rb F addr w h0 h1 c0 c1
  · exact check_arg rb F addr size w h0 h1 c0 c1 hs

/-! ### the number of n bytes -/
def le (c : Nat → Int) (at_ : Nat) : Nat → Int
  | 0 => 0
  | i + 1 => le c at_ i + c (at_ + i) * 256 ^ i
theorem le_bd {c : Nat → Int} (hc : ∀ i, 0 ≤ c i ∧ c i < 256) (a : Nat) : ∀ n, 0 ≤ le c a n ∧ le c a n < 256 ^ n
  | 0 => by simp [le]
  | n + 1 => by
    have h := le_bd hc a n
    have h2 := hc (a + n)
    simp only [le]
    have hp : (0 : Int) < 256 ^ n := Int.pow_pos (by omega)
    have h3 : 0 ≤ c (a + n) * 256 ^ n := Int.mul_nonneg h2.1 (by omega)
    have h4 : c (a + n) * 256 ^ n ≤ 255 * 256 ^ n := Int.mul_le_mul_of_nonneg_right (by omega) (by omega)
    rw [Int.pow_succ]
    omega
end Go.Proofs.YtkiclbnbnjbcaabDoor
