/- Containers: Charge, Credit. -/
import Derived.Test.YtpfcpmhpekidkaaQ2
namespace Go.Proofs.Ytpfcpmhpekidkaa.Qu
open Go.ChangeShapes Go.WideShapes Go.ChangeAt Go.RowKit Go.Maps
set_option linter.unusedSimpArgs false
set_option linter.unusedVariables false

theorem IsTree.unfrozen {w : World} {b : Nat} {T : Nat → Nd} (h : IsTree w b T) (o : Nat) (ho : o < 320) : w.frozen? ⟨b, o, none⟩ = false := by
  have := (h.2.1 o ho).2
  rwa [Nat.zero_add] at this
theorem IsTree.drew {w : World} {b : Nat} {T : Nat → Nd} (h : IsTree w b T) : IsTree w.drew b T := h
theorem grown_drew {w W : World} {r : Option Nat} (h : w.grownBy W r) : w.grownBy W.drew r := ⟨h.os, h.tape, h.output, h.size, h.block⟩
theorem live_in {T : Nat → Nd} {i : Int} (h : (getN T i).live = true) : ∃ k : Nat, i = k ∧ k < 64 ∧ getN T i = T k := by
  unfold getN at h ⊢
  by_cases c : 0 ≤ i ∧ i < 64
  · exact ⟨i.toNat, by omega, by omega, by rw [if_pos c]⟩
  · rw [if_neg c] at h; exact absurd h (by decide)
def Nd.plus (l : Nd) (n : Int) : Nd := ⟨l.par, l.quota, l.used + n, l.lent, l.live⟩
def Nd.lend (l : Nd) (n : Int) : Nd := ⟨l.par, l.quota, l.used, l.lent + n, l.live⟩
def chargeT (T : Nat → Nd) (i n : Int) : Nat → Nd := if mayN T i n = 0 then putT T i.toNat ((T i.toNat).plus n) else T
theorem may_zero {T : Nat → Nd} {i n : Int} (h : mayN T i n = 0) : (getN T i).live = true ∧ 0 ≤ n ∧ n ≤ (getN T i).room := by
  unfold mayN at h
  by_cases a : (getN T i).live = false
  · rw [if_pos a] at h; omega
  · rw [if_neg a] at h
    by_cases c : n < 0
    · rw [if_pos c] at h; omega
    · rw [if_neg c] at h
      by_cases d : (getN T i).room < n
      · rw [if_pos d] at h; omega
      · exact ⟨by simpa using a, by omega, by omega⟩
set_option maxHeartbeats 1000000 in
theorem charge_any (b : Nat) (T : Nat → Nd) (hT : OkT T) (i n : Int) (w : World) (h : IsTree w b T) :
    Calls Try.prog 14 #[.pointer (some ⟨b, 0, none⟩), .int .i64 i, .int .i64 n] w fun e w' => e = .returned (.int .i64 (mayN T i n)) ∧ IsTree w' b (chargeT T i n) ∧ w.grownBy w' (some b) := by
  have M : Hid (∀ w : World, IsTree w b T → Calls Try.prog 29 #[.pointer (some ⟨b, 0, none⟩), .int .i64 i, .int .i64 n] w fun e w' => e = .returned (.int .i64 (mayN T i n)) ∧ Below w.heap.size w w') := fun w h => may_any b T hT i n w h
  have HT : Hid (IsTree w b T) := h
  by_cases c : mayN T i n = 0
  · unfold chargeT
    rw [if_pos c]
    rw [c] at M ⊢
    obtain ⟨m1, m2, m3⟩ := may_zero c
    obtain ⟨k, rfl, hk, hg⟩ := live_in m1
    rw [hg] at m3
    have hok := hT k hk
    obtain ⟨l, hl⟩ : ∃ l, T k = l := ⟨_, rfl⟩
    rw [Int.toNat_natCast]
    rw [hl] at m3 hok ⊢
    have ho1 : 0 ≤ l.used := hok.2.2.1
    have ho2 : l.used ≤ 1048576 := hok.2.2.2.1
    have ho3 : n ≤ 1048576 := by
      have := hok.2.1; have := hok.2.2.2.2.1; unfold Nd.room at m3; omega
    have hb := h.2.2
    clear h hok m3 hg m1 c
    have k0 : (0 : Int) ≤ (k : Int) := by omega
    have k6 : (k : Int) < 64 := by omega
    have HL : Hid (T k = l) := hl
    clear hl
    go_enter Try.func14, Try.ntmps14
    go_wp2_with fail
    refine (M.out _ HT.out).mono ?_
    rintro e u1 ⟨rfl, hb1⟩
    have B1 : Hid (Below w.heap.size w u1) := hb1
    have T1 : Hid (IsTree u1 b T) := HT.out.below hb1
    have lb : b < u1.heap.size := Nat.lt_of_lt_of_le hb hb1.size
    have c2 : u1.cell? ⟨b, k * 5 + 2, none⟩ = some (.int .i64 l.used) := T1.out.cell k hk 2 _ (by rw [HL.out]; rfl) _ rfl
    have f2 : u1.frozen? ⟨b, k * 5 + 2, none⟩ = false := T1.out.unfrozen _ (by omega)
    clear hb1
    go_wp2_with fail
    go_region
    all_goals (go_wp2_with fail; go_ret; exact ⟨rfl, (T1.out.drew.one k hk 2 _ (l.plus n) (by rw [HL.out]; rfl) (by omega) _ rfl), grown_trans (grown_of_below (below_drew B1.out) _) (grown_setCell1 _ _ _ _)⟩)
  · unfold chargeT
    rw [if_neg c]
    have cb : (mayN T i n == 0) = false := by simp [c]
    generalize mayN T i n = z at M c cb ⊢
    clear h
    go_enter Try.func14, Try.ntmps14
    go_wp2_with fail
    refine (M.out _ HT.out).mono ?_
    rintro e u1 ⟨rfl, hb1⟩
    have B1 : Hid (Below w.heap.size w u1) := hb1
    clear hb1
    go_wp2_with fail
    go_ret
    exact ⟨rfl, HT.out.below B1.out, grown_of_below B1.out _⟩
end Go.Proofs.Ytpfcpmhpekidkaa.Qu
