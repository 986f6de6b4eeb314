/- A buddy: the laws' awake. -/
import Derived.Test.YtpjejjonkdhelaaBDL
namespace Go.Proofs.Ytpjejjonkdhelaa
open Go.ChangeShapes Go.WideShapes Go.ChangeAt Go.RowKit Go.Maps
set_option linter.unusedSimpArgs false
set_option linter.unusedVariables false
set_option maxRecDepth 8000

theorem kf_below {n : Nat} {W W' : World} (hn : n ≤ W.heap.size) (h : Kf (fun j => ¬ j < n) W W') : Below n W W' := ⟨h.os, h.tape, h.output, h.size, fun j hj => h.block j (Nat.lt_of_lt_of_le hj hn) (fun e => e hj)⟩
/-- one range, made -/
theorem rgs_one (w : World) (f t : Int) : Rgs (w.alloc (.cells #[.int .i64 f, .int .i64 t] 59)) w.heap.size 1 (fun _ => (f, t)) := by
  have ow := own1 w (.cells #[.int .i64 f, .int .i64 t] 59)
  refine ⟨blk_lt ow, fun i hi => ?_⟩
  obtain rfl : i = 0 := by omega
  exact ⟨by rw [Go.Joins.cell_of_block ow]; rfl, by rw [Go.Joins.cell_of_block ow]; rfl⟩
theorem ru_one (f t : Nat) : RU (fun _ => ((f : Int), (t : Int))) 1 = fun i => f ≤ i ∧ i < t := by
  funext i; apply propext
  constructor
  · rintro ⟨m, _, h1, h2⟩
    simp only at h1 h2
    exact ⟨by omega, by omega⟩
  · rintro ⟨h1, h2⟩
    exact ⟨0, by omega, by simp only; omega, by simp only; omega⟩
theorem form_one {f t : Nat} (h : f < t) (h2 : t ≤ 1048576) : Form (fun _ => ((f : Int), (t : Int))) 1 := fun i hi => by
  obtain rfl : i = 0 := by omega
  exact ⟨by show (0 : Int) ≤ _; simp only; omega, by simp only; omega, by simp only; omega⟩
/-- frames 1 to 7 -/
abbrev a0 : Nat → Prop := fun i => 1 ≤ i ∧ i < 8
theorem aw_cn : cnN a0 0 1 := ⟨fun i h => by simp at h; subst h; exact ⟨by omega, by omega⟩, Or.inr ⟨0, by simp, fun h => by have := h.1; omega⟩⟩
theorem aw_p {p f q d : Nat} (T : Took a0 0 p f q d) : p = 1 := by
  have f0 : f = 0 := by
    cases f with
    | zero => rfl
    | succ f => exact absurd aw_cn (T.less 0 (Nat.le_refl _) (by omega) 1)
  subst f0
  have d0 : d = 0 := by have := T.sum; omega
  subst d0
  have l := T.low 1 aw_cn
  have h := T.cn.1 q (by simp)
  have := T.at_
  simp at this
  have h1 : 1 ≤ q := h.1
  omega
/-- frames 2 to 7 -/
abbrev a1 : Nat → Prop := fun i => a0 i ∧ ¬ i / 2 ^ 0 = 1
theorem a1_is (i : Nat) : a1 i ↔ 2 ≤ i ∧ i < 8 := by
  unfold a1 a0
  simp
  omega
theorem aw_cn2 : cnN a1 1 1 := ⟨fun i h => by rw [a1_is]; simp at h; omega, Or.inr ⟨0, by simp, fun h => by rw [a1_is] at h; omega⟩⟩
theorem aw_no (q : Nat) : ¬ cnN a1 0 q := fun h => by
  have h1 := (a1_is q).1 (h.1 q (by simp))
  rcases h.2 with r | ⟨i, r1, r2⟩
  · omega
  · rw [a1_is] at r2
    simp at r1
    omega
theorem aw_p2 {p f q d : Nat} (T : Took a1 0 p f q d) : p = 2 := by
  have f0 : f = 1 := by
    cases f with
    | zero => exact absurd T.cn (aw_no q)
    | succ f =>
      cases f with
      | zero => rfl
      | succ f => exact absurd aw_cn2 (T.less 1 (by omega) (by omega) 1)
  subst f0
  have d0 : d = 1 := by have := T.sum; omega
  subst d0
  have l := T.low 1 aw_cn2
  have h := (a1_is _).1 (T.cn.1 (q * 2) (by simp))
  have := T.at_
  simp at this
  omega
theorem aw_cnt : cnt (fun i => a1 i ∧ ¬ i / 2 ^ 0 = 2) 1048576 = 5 := by
  have e : (fun i => a1 i ∧ ¬ i / 2 ^ 0 = 2) = (fun i => 3 ≤ i ∧ i < 8) := by
    funext i; apply propext
    rw [a1_is]; simp; omega
  rw [e, cnt_seg 3 8 (by omega)]
  rfl
set_option maxHeartbeats 2000000 in
theorem awake_any (w : World) : Calls Try.prog 12 #[] w fun e w' => e = .returned (.bool true) ∧ Below w.heap.size w w' := by
  have NC : Hid (Calls Try.prog 10 #[.slice (some ⟨w.heap.size, 0, none⟩) 1 1] (w.alloc (.cells #[.int .i64 1, .int .i64 8] 59)) fun e w' => ∃ b, e = .returned (.tuple #[.pointer (some ⟨b, 0, none⟩), .int .i64 0]) ∧ Bu (fun j => j < w.heap.size) w' b 8 a0 noneF ∧ Below w.heap.size w w') := by
    refine (new_ok w.heap.size 1 1 (by omega) _ _ (rgs_one w 1 8) (form_one (f := 1) (t := 8) (by omega) (by omega))).mono ?_
    rintro e w' ⟨b, he, hB, hb⟩
    rw [show (fun _ => ((1 : Int), (8 : Int))) = (fun _ => (((1 : Nat) : Int), ((8 : Nat) : Int))) from rfl, ru_one 1 8] at hB
    have sz := World.size_alloc w (.cells #[.int .i64 1, .int .i64 8] 59)
    exact ⟨b, he, hB.less (fun j hj => by omega), below_then (Go.Joins.below_alloc1 _ _) hb⟩
  go_enter Try.func12, Try.ntmps12
  go_wp2_with fail
  refine Calls.mono NC.out ?_
  rintro e w1 ⟨b, rfl, hB, hb⟩
  have B1 : Hid (Below w.heap.size w w1) := hb
  have T1 : Hid (Calls Try.prog 15 #[.pointer (some ⟨b, 0, none⟩), .int .i64 0] w1 fun e w' => e = .returned (.tuple #[.int .i64 1, .int .i64 0]) ∧ Bu (fun j => j < w.heap.size) w' b 28 a1 (setF noneF 1 (some 0)) ∧ Below w.heap.size w w') := by
    refine (hB.take 0 (by omega) (by omega)).mono ?_
    rintro e w' (⟨_, _, h⟩ | ⟨p, f, q, d, he, T, hB2, k⟩)
    · exact absurd aw_cn (h 0 1 (Nat.le_refl _) (by omega))
    · obtain rfl := aw_p T
      exact ⟨he, hB2, B1.out.trans (kf_below B1.out.size k)⟩
  clear hB hb NC
  go_wp2_with fail
  refine Calls.mono T1.out ?_
  rintro e w2 ⟨rfl, hB, hb⟩
  have B2 : Hid (Below w.heap.size w w2) := hb
  have T2 : Hid (Calls Try.prog 15 #[.pointer (some ⟨b, 0, none⟩), .int .i64 0] w2 fun e w' => e = .returned (.tuple #[.int .i64 2, .int .i64 0]) ∧ Bu (fun j => j < w.heap.size) w' b 48 (fun i => a1 i ∧ ¬ i / 2 ^ 0 = 2) (setF (setF noneF 1 (some 0)) 2 (some 0)) ∧ Below w.heap.size w w') := by
    refine (hB.take 0 (by omega) (by omega)).mono ?_
    rintro e w' (⟨_, _, h⟩ | ⟨p, f, q, d, he, T, hB2, k⟩)
    · exact absurd aw_cn2 (h 1 1 (by omega) (by omega))
    · obtain rfl := aw_p2 T
      exact ⟨he, hB2, B2.out.trans (kf_below B2.out.size k)⟩
  clear hB hb T1
  go_wp2_with fail
  refine Calls.mono T2.out ?_
  rintro e w3 ⟨rfl, hB, hb⟩
  have B3 : Hid (Below w.heap.size w w3) := hb
  have FC : Hid (Calls Try.prog 21 #[.pointer (some ⟨b, 0, none⟩)] w3 fun e w' => e = .returned (.int .i64 5) ∧ w' = w3) := by
    have := hB.free
    rw [aw_cnt] at this
    exact this
  have O1 : Hid (Calls Try.prog 23 #[.pointer (some ⟨b, 0, none⟩), .int .i64 2] w3 fun e w' => e = .returned (.int .i64 0) ∧ w' = w3) := hB.order (x := 2) (by decide)
  have O2 : Hid (Calls Try.prog 23 #[.pointer (some ⟨b, 0, none⟩), .int .i64 3] w3 fun e w' => e = .returned (.int .i64 (-1)) ∧ w' = w3) := hB.order (x := 3) (by decide)
  clear hB hb T2
  go_wp2_with fail
  refine Calls.mono FC.out ?_
  rintro e w4 ⟨rfl, rfl⟩
  go_wp2_with fail
  refine Calls.mono O1.out ?_
  rintro e w5 ⟨rfl, rfl⟩
  go_wp2_with fail
  refine Calls.mono O2.out ?_
  rintro e w6 ⟨rfl, rfl⟩
  go_wp2_with fail
  go_ret
  exact ⟨rfl, B3.out⟩
end Go.Proofs.Ytpjejjonkdhelaa
