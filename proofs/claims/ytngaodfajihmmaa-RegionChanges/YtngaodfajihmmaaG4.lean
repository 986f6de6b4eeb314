/- Regions: pages counted; lists that aren't too long; why a list can't be changed. -/
import Derived.Test.YtngaodfajihmmaaG2
import Derived.Test.YtngaodfajihmmaaG3
namespace Go.Proofs.Ytngaodfajihmmaa
open Go.ChangeShapes Go.WideShapes Go.ChangeAt Go.RowKit Go.Maps
set_option linter.unusedSimpArgs false
set_option linter.unusedVariables false

/-- how many pages of a range a region has -/
def Rg.len (r : Rg) (f t : Int) : Int := if max r.fr f < min r.to t then min r.to t - max r.fr f else 0
def cntR (f t : Int) : List Rg → Int
  | [] => 0
  | r :: l => r.len f t + cntR f t l
theorem cntR_append (f t : Int) (k : List Rg) : ∀ l, cntR f t (l ++ k) = cntR f t l + cntR f t k
  | [] => by show cntR f t k = 0 + _; omega
  | a :: l => by rw [List.cons_append, cntR, cntR, cntR_append f t k l]; omega
theorem takeR_next (B : List Rg) (m : Nat) (h : m < B.length) : B.take (m + 1) = B.take m ++ [B.getD m Rg.zero] := by
  rw [List.take_add_one, List.getElem?_eq_getElem h]
  have : B.getD m Rg.zero = B[m] := by rw [List.getD, List.getElem?_eq_getElem h]; rfl
  rw [this]; rfl
theorem cntR_take (f t : Int) (L : List Rg) (m : Nat) (h : m < L.length) : cntR f t (L.take (m + 1)) = cntR f t (L.take m) + (L.getD m Rg.zero).len f t := by
  rw [takeR_next L m h, cntR_append]
  show _ + (_ + 0) = _
  omega
/-- numbers that fit -/
def NumL (L : List Rg) : Prop := ∀ k, k < L.length → -2199023255552 ≤ (L.getD k Rg.zero).fr ∧ (L.getD k Rg.zero).to ≤ 2199023255552
set_option maxHeartbeats 2000000 in
theorem count_any (base : Nat) (p : Option Addr) (c : Nat) (L : List Rg) (hL : L.length ≤ 100) (hN : NumL L) (qf qt : Int) (w : World) (h : IsL w base p L) :
    Calls Try.prog 23 #[.slice p L.length c, rgV qf qt] w fun e w' => e = .returned (.int .i64 (cntR qf qt L)) ∧ Below w.heap.size w w' := by
  obtain ⟨z, hz⟩ : ∃ z, cntR qf qt L = z := ⟨_, rfl⟩
  rw [hz]
  have HZ : Hid (cntR qf qt L = z) := hz
  have HI : Hid (IsL w base p L) := h
  have HN : Hid (NumL L) := hN
  have CM : Hid (∀ (a1 a2 : Int) (W : World), Calls Try.prog 35 #[rgV a1 a2, rgV qf qt] W fun e w' => e = .returned (rgV (max a1 qf) (min a2 qt)) ∧ Below W.heap.size W w') := fun a1 a2 W => common_any a1 a2 qf qt W
  clear hz h hN
  go_enter Try.func23, Try.ntmps23
  go_wp2_with fail
  go_loopw [5, 11] (fun y x W => ∃ (m : Nat) (s : Int), m ≤ L.length ∧ y = .int .i64 s ∧ x = .int .i64 m ∧ 0 ≤ s ∧ s ≤ (m : Int) * 4398046511104 ∧ Hid (IsL W base p L) ∧ Hid (Below w.heap.size w W) ∧ Hid (W.cell? ⟨w.heap.size, 0, none⟩ = some (.int .i64 qf) ∧ W.cell? ⟨w.heap.size, 1, none⟩ = some (.int .i64 qt) ∧ w.heap.size < W.heap.size) ∧ Hid (s = cntR qf qt (L.take m))) (fun _ x _ => L.length - (intOf x).toNat)
  case atStart => exact ⟨0, 0, by omega, rfl, rfl, by omega, by omega, HI.out.below (Go.Joins.below_alloc1 _ _), Go.Joins.below_alloc1 _ _, ⟨by simp, by simp, by simp⟩, rfl⟩
  case round =>
    obtain ⟨m, s, hm, rfl, rfl, s0, s1, hI, hb, hP, hS⟩ := hrel
    by_cases hlm : m < L.length
    · have hd : decide ((m : Int) < (L.length : Int)) = true := by simp; omega
      obtain ⟨g, rfl, g1, g2, gc⟩ := hI.out m hlm
      have NX : Hid (cntR qf qt (L.take (m + 1)) = s + (L.getD m Rg.zero).len qf qt) := by
        show _ = _
        rw [cntR_take qf qt L m hlm, ← hS.out]
      have nm := HN.out m hlm
      generalize L.getD m Rg.zero = rr at gc NX nm
      obtain ⟨r1, r2, r3, r4, r5, r6⟩ := rr
      simp only at nm
      obtain ⟨n1, n2⟩ := nm
      unfold Rg.len at NX
      simp only at NX
      have y0 : wr.cell? ⟨g, m * 6, none⟩ = some (.int .i64 r1) := gc 0 _ rfl
      have y1 : wr.cell? ⟨g, m * 6 + 1, none⟩ = some (.int .i64 r2) := gc 1 _ rfl
      have y2 : wr.cell? ⟨g, m * 6 + 2, none⟩ = some (.bool r3) := gc 2 _ rfl
      have y3 : wr.cell? ⟨g, m * 6 + 3, none⟩ = some (.bool r4) := gc 3 _ rfl
      have y4 : wr.cell? ⟨g, m * 6 + 4, none⟩ = some (.bool r5) := gc 4 _ rfl
      have y5 : wr.cell? ⟨g, m * 6 + 5, none⟩ = some (.int .i64 r6) := gc 5 _ rfl
      clear gc
      have CR : Hid _ := CM.out r1 r2
      obtain ⟨mf, hmf⟩ : ∃ x, max r1 qf = x := ⟨_, rfl⟩
      obtain ⟨mt, hmt⟩ : ∃ x, min r2 qt = x := ⟨_, rfl⟩
      rw [hmf, hmt] at CR NX
      have k1 : r1 ≤ mf := by omega
      have k2 : mt ≤ r2 := by omega
      clear hmf hmt
      obtain ⟨b0, b1, lw⟩ := hP.out
      go_wp2_with fail
      refine (CR.out _).mono ?_
      rintro e u1 ⟨rfl, hb1⟩
      have BW : Hid (Below wr.heap.size wr u1) := below_then (Go.Joins.below_alloc1 _ _) hb1
      have I1 : Hid (IsL (u1.alloc (.cells #[.int .i64 mf, .int .i64 mt] 29)) base (some ⟨g, 0, none⟩) L) := (hI.out.below BW.out).below (Go.Joins.below_alloc1 _ _)
      have B1 : Hid (Below w.heap.size w (u1.alloc (.cells #[.int .i64 mf, .int .i64 mt] 29))) := below_new (below_then hb.out BW.out) _
      have P1 : Hid ((u1.alloc (.cells #[.int .i64 mf, .int .i64 mt] 29)).cell? ⟨w.heap.size, 0, none⟩ = some (.int .i64 qf) ∧ (u1.alloc (.cells #[.int .i64 mf, .int .i64 mt] 29)).cell? ⟨w.heap.size, 1, none⟩ = some (.int .i64 qt) ∧ w.heap.size < (u1.alloc (.cells #[.int .i64 mf, .int .i64 mt] 29)).heap.size) := by
        have l1 : w.heap.size < u1.heap.size := Nat.lt_of_lt_of_le lw BW.out.size
        exact ⟨(World.cell?_alloc_lt _ _ _ (by exact l1)).trans ((BW.out.cell (p := ⟨w.heap.size, 0, none⟩) lw).trans b0), (World.cell?_alloc_lt _ _ _ (by exact l1)).trans ((BW.out.cell (p := ⟨w.heap.size, 1, none⟩) lw).trans b1), by rw [World.size_alloc]; omega⟩
      clear hb1 hI hb hP b0 b1 y0 y1 y2 y3 y4 y5 BW
      by_cases cc : mf < mt
      · have ed : decide (mf < mt) = true := by simp [cc]
        have N2 : Hid (s + (mt - mf) = cntR qf qt (L.take (m + 1))) := by
          have := NX.out
          rw [if_pos cc] at this; exact this.symm
        clear NX
        go_wp2_with fail
        go_roundw
        case rel => exact ⟨m + 1, s + (mt - mf), by omega, by go_num, by go_num, by omega, by omega, I1, B1, P1, N2⟩
        case measure => simp [intOf]; omega
      · have ed : decide (mf < mt) = false := by simp [cc]
        have N2 : Hid (s = cntR qf qt (L.take (m + 1))) := by
          have := NX.out
          rw [if_neg cc, Int.add_zero] at this; exact this.symm
        clear NX
        go_wp2_with fail
        go_roundw
        case rel => exact ⟨m + 1, s, by omega, rfl, by go_num, by omega, by omega, I1, B1, P1, N2⟩
        case measure => simp [intOf]; omega
    · obtain rfl : m = L.length := by omega
      have ez : s = z := by
        have h1 := hS.out
        rw [List.take_length, HZ.out] at h1; exact h1
      subst ez
      go_wp2_with fail
      go_ret
      exact ⟨rfl, hb.out⟩
set_option maxHeartbeats 1000000 in
theorem few_yes (p : Option Addr) (n c : Nat) (h : n ≤ 64) (w : World) : Calls Try.prog 28 #[.slice p n c] w fun e w' => e = .returned (.tuple #[.slice p n c, .int .i64 0]) ∧ Below w.heap.size w w' := by
  have hd : decide (64 < (n : Int)) = false := by simp; omega
  go_enter Try.func28, Try.ntmps28
  go_wp2_with fail
  go_returns
  exact ⟨rfl, Below.refl _ _⟩
set_option maxHeartbeats 1000000 in
theorem few_no (p : Option Addr) (n c : Nat) (h : 64 < n) (hn : n ≤ 1000) (w : World) : Calls Try.prog 28 #[.slice p n c] w fun e w' => e = .returned (.tuple #[.slice none 0 0, .int .i64 4]) ∧ Below w.heap.size w w' := by
  have hd : decide (64 < (n : Int)) = true := by simp; omega
  go_enter Try.func28, Try.ntmps28
  go_wp2_with fail
  go_returns
  exact ⟨rfl, Below.refl _ _⟩
def checkN (L : List Rg) (f t : Int) : Int := if rightB f t = true then (if goodB L = true then 0 else 3) else 1
set_option maxHeartbeats 1000000 in
theorem check_any (base : Nat) (p : Option Addr) (c : Nat) (L : List Rg) (hL : L.length ≤ 100) (f t : Int) (w : World) (h : IsL w base p L) :
    Calls Try.prog 26 #[.slice p L.length c, rgV f t] w fun e w' => e = .returned (.int .i64 (checkN L f t)) ∧ Below w.heap.size w w' := by
  have RA : Hid (∀ W : World, Calls Try.prog 36 #[rgV f t] W fun e w' => e = .returned (.bool (rightB f t)) ∧ Below W.heap.size W w') := fun W => right_any f t W
  have GA : Hid (∀ W : World, IsL W base p L → Calls Try.prog 21 #[.slice p L.length c] W fun e w' => e = .returned (.bool (goodB L)) ∧ Below W.heap.size W w') := fun W h => good_any base p c L hL W h
  have HI : Hid (IsL w base p L) := h
  unfold checkN
  generalize rightB f t = z1 at RA ⊢
  generalize goodB L = z2 at GA ⊢
  clear h
  generalize L.length = n at GA ⊢
  cases z1
  · rw [if_neg (by simp)]
    go_enter Try.func26, Try.ntmps26
    go_wp2_with fail
    refine (RA.out _).mono ?_
    rintro e u1 ⟨rfl, hb1⟩
    have B1 : Hid (Below w.heap.size w u1) := below_then (Go.Joins.below_alloc1 _ _) hb1
    clear hb1
    go_wp2_with fail
    go_ret
    exact ⟨rfl, B1.out⟩
  · rw [if_pos rfl]
    cases z2
    all_goals
      go_enter Try.func26, Try.ntmps26
      go_wp2_with fail
      refine (RA.out _).mono ?_
      rintro e u1 ⟨rfl, hb1⟩
      have B1 : Hid (Below w.heap.size w u1) := below_then (Go.Joins.below_alloc1 _ _) hb1
      clear hb1
      go_wp2_with fail
      refine (GA.out _ (HI.out.below B1.out)).mono ?_
      rintro e u2 ⟨rfl, hb2⟩
      have B2 : Hid (Below w.heap.size w u2) := below_then B1.out hb2
      clear hb2
      go_wp2_with fail
      go_ret
      exact ⟨rfl, B2.out⟩
end Go.Proofs.Ytngaodfajihmmaa
