/- Regions: the document's Good. -/
import Derived.Test.YtngaodfajihmmaaG15
namespace Go.Proofs.Ytngaodfajihmmaa
open Go.ChangeShapes Go.WideShapes Go.ChangeAt Go.RowKit Go.Maps
set_option linter.unusedSimpArgs false
set_option linter.unusedVariables false

def rok1 (r : Rg) : Bool := decide (0 ≤ r.fr) && (decide (r.fr < r.to) && decide (r.to ≤ 34359738368))
def rok2 (L : List Rg) : Nat → Bool
  | 0 => true
  | i + 1 => decide ((L.getD i Rg.zero).to ≤ (L.getD (i + 1) Rg.zero).fr) && !((L.getD i Rg.zero).joins (L.getD (i + 1) Rg.zero))
def rokAt (L : List Rg) (i : Nat) : Bool := rok1 (L.getD i Rg.zero) && rok2 L i
def goodK (L : List Rg) (k : Nat) : Bool := decide (L.length ≤ 64) && allB (rokAt L) k
theorem okAt_low {L : List Rg} : ∀ (i : Nat), (∀ j, j ≤ i → okAt L j = true) → 0 ≤ (L.getD i Rg.zero).fr ∧ (L.getD i Rg.zero).fr < (L.getD i Rg.zero).to
  | 0, h => by
    have := h 0 (Nat.le_refl _)
    unfold okAt okR endAt at this
    simp at this ⊢
    omega
  | i + 1, h => by
    have ih := okAt_low i (fun j hj => h j (by omega))
    have := h (i + 1) (Nat.le_refl _)
    unfold okAt okR endAt at this
    simp at this ih ⊢
    omega
theorem goodK_is (L : List Rg) : goodK L L.length = goodB L := by
  unfold goodK goodB
  congr 1
  rw [Bool.eq_iff_iff, allB_iff, allB_iff]
  constructor
  · intro h i hi
    have hh := h i hi
    unfold rokAt rok1 at hh
    cases i with
    | zero =>
      unfold okAt okR endAt jnAt
      simp at hh ⊢
      omega
    | succ i =>
      unfold rok2 at hh
      unfold okAt okR endAt jnAt
      simp at hh ⊢
      exact ⟨⟨hh.2.1, hh.1.2⟩, hh.2.2⟩
  · intro h i hi
    have lo := okAt_low (L := L) i (fun j hj => h j (by omega))
    have hh := h i hi
    unfold okAt okR at hh
    unfold rokAt rok1
    cases i with
    | zero =>
      unfold rok2
      unfold endAt jnAt at hh
      simp at hh lo ⊢
      omega
    | succ i =>
      unfold rok2
      unfold endAt jnAt at hh
      simp at hh lo ⊢
      exact ⟨⟨lo.1, hh.1.2⟩, hh.1.1, hh.2⟩
theorem goodK_next (L : List Rg) (k : Nat) : goodK L (k + 1) = (goodK L k && rokAt L k) := by
  unfold goodK
  rw [allB, Bool.and_assoc]
set_option maxHeartbeats 4000000 in
theorem goodr_any (base : Nat) (p : Option Addr) (c : Nat) (L : List Rg) (hL : L.length ≤ 100) (w : World) (h : IsL w base p L) :
    Calls Try.prog 22 #[.slice p L.length c] w fun e w' => e = .returned (.bool (goodB L)) ∧ Below w.heap.size w w' := by
  rw [← goodK_is]
  have HI : Hid (IsL w base p L) := h
  have NX : Hid (∀ k, goodK L (k + 1) = (goodK L k && rokAt L k)) := goodK_next L
  obtain ⟨g0, hg0⟩ : ∃ g, decide (L.length ≤ 64) = g := ⟨_, rfl⟩
  have G0 : Hid (goodK L 0 = g0) := by show _ = _; rw [← hg0]; unfold goodK allB; simp
  obtain ⟨n, hn⟩ : ∃ n, L.length = n := ⟨_, rfl⟩
  have HN : Hid (L.length = n) := hn
  obtain ⟨zz, hzz⟩ : ∃ z, goodK L L.length = z := ⟨_, rfl⟩
  have HZ : Hid (goodK L n = zz) := by show _ = _; rw [← hzz, hn]
  rw [hzz]
  clear hzz
  rw [hn] at hL ⊢
  have g0d : decide ((n : Int) ≤ 64) = g0 := by
    rw [← hg0, hn]
    by_cases q : n ≤ 64
    · rw [decide_eq_true q, decide_eq_true (by omega)]
    · rw [decide_eq_false q, decide_eq_false (by omega)]
  clear h hn hg0
  go_enter Try.func22, Try.ntmps22
  go_wp2_with fail
  go_loopw [3, 12] (fun y x W => ∃ (m : Nat) (gb : Bool), m ≤ n ∧ y = .bool gb ∧ x = .int .i64 m ∧ Hid (IsL W base p L) ∧ Hid (Below w.heap.size w W) ∧ Hid (goodK L m = gb)) (fun _ x _ => n - (intOf x).toNat)
  case atStart => exact ⟨0, g0, by omega, (by first | rfl | (rw [g0d])), rfl, HI, Below.refl _ _, G0⟩
  case round =>
    obtain ⟨m, gb, hm, rfl, rfl, hI, hb, hK⟩ := hrel
    by_cases hlm : m < n
    · have hd : decide ((m : Int) < (n : Int)) = true := by simp; omega
      obtain ⟨g, rfl, g1, g2, gc⟩ := hI.out m (by rw [HN.out]; exact hlm)
      have N1 : Hid (goodK L (m + 1) = (gb && (rok1 (L.getD m Rg.zero) && rok2 L m))) := by show _ = _; rw [NX.out, hK.out]; rfl
      obtain ⟨rr, hrr⟩ : ∃ rr, L.getD m Rg.zero = rr := ⟨_, rfl⟩
      have HR : Hid (L.getD m Rg.zero = rr) := hrr
      rw [hrr] at gc N1
      clear hrr
      obtain ⟨r1, r2, r3, r4, r5, r6⟩ := rr
      have y0 : wr.cell? ⟨g, m * 6, none⟩ = some (.int .i64 r1) := gc 0 _ rfl
      have y1 : wr.cell? ⟨g, m * 6 + 1, none⟩ = some (.int .i64 r2) := gc 1 _ rfl
      have y2 : wr.cell? ⟨g, m * 6 + 2, none⟩ = some (.bool r3) := gc 2 _ rfl
      have y3 : wr.cell? ⟨g, m * 6 + 3, none⟩ = some (.bool r4) := gc 3 _ rfl
      have y4 : wr.cell? ⟨g, m * 6 + 4, none⟩ = some (.bool r5) := gc 4 _ rfl
      have y5 : wr.cell? ⟨g, m * 6 + 5, none⟩ = some (.int .i64 r6) := gc 5 _ rfl
      clear gc
      have I1 : Hid (IsL (wr.alloc (.cells #[.int .i64 r1, .int .i64 r2, .bool r3, .bool r4, .bool r5, .int .i64 r6] 31)) base (some ⟨g, 0, none⟩) L) := hI.out.below (Go.Joins.below_alloc1 _ _)
      have B1 : Hid (Below w.heap.size w (wr.alloc (.cells #[.int .i64 r1, .int .i64 r2, .bool r3, .bool r4, .bool r5, .int .i64 r6] 31))) := below_new hb.out _
      have II : Hid (IsL wr base (some ⟨g, 0, none⟩) L) := hI.out
      clear hI hb
      go_upto_region 5 with fail
      go_cut [3] (fun a wx => ∃ b : Bool, a = .bool b ∧ Hid (b = (gb && rok1 ⟨r1, r2, r3, r4, r5, r6⟩)) ∧ wx = (wr.alloc (.cells #[.int .i64 r1, .int .i64 r2, .bool r3, .bool r4, .bool r5, .int .i64 r6] 31)))
      case first =>
        clear N1 NX HR hK
        cases gb
        · go_wp2_with fail
          go_meet
          exact ⟨_, rfl, rfl, rfl⟩
        by_cases c1 : 0 ≤ r1
        · have d1 : decide (0 ≤ r1) = true := by simp [c1]
          by_cases c2 : r1 < r2
          · have d2 : decide (r1 < r2) = true := by simp [c2]
            have K3 : Hid (∀ b, decide (r2 ≤ 34359738368) = b → b = (true && rok1 ⟨r1, r2, r3, r4, r5, r6⟩)) := fun b q => by unfold rok1; simp only [d1, d2, Bool.true_and]; exact q.symm
            clear c1 c2
            obtain ⟨b3, hb3⟩ : ∃ b, decide (r2 ≤ 34359738368) = b := ⟨_, rfl⟩
            have k3 := K3.out b3 hb3
            have K4 : Hid (b3 = (true && rok1 ⟨r1, r2, r3, r4, r5, r6⟩)) := k3
            clear k3 K3
            go_wp2_with fail
            go_meet
            exact ⟨b3, by first | rfl | (rw [hb3]), K4, rfl⟩
          · have d2 : decide (r1 < r2) = false := by simp [c2]
            have K4 : Hid (false = (true && rok1 ⟨r1, r2, r3, r4, r5, r6⟩)) := by show _ = _; unfold rok1; simp only [d1, d2, Bool.true_and, Bool.false_and]
            go_wp2_with fail
            go_meet
            exact ⟨_, rfl, K4, rfl⟩
        · have d1 : decide (0 ≤ r1) = false := by simp [c1]
          have K4 : Hid (false = (true && rok1 ⟨r1, r2, r3, r4, r5, r6⟩)) := by show _ = _; unfold rok1; simp only [d1, Bool.true_and, Bool.false_and]
          go_wp2_with fail
          go_meet
          exact ⟨_, rfl, K4, rfl⟩
      case rest =>
        obtain ⟨b, rfl, hb, ew⟩ := hcut
        have ew2 := ew.symm
        subst ew2
        clear ew
        cases m with
        | zero =>
          have N2 : Hid (goodK L (0 + 1) = b) := by show _ = _; rw [N1.out, hb.out]; unfold rok2; simp
          clear N1 NX hb
          go_wp2_with fail
          go_roundw
          case rel => exact ⟨0 + 1, b, by omega, rfl, by go_num, I1, B1, N2⟩
          case measure => simp [intOf]; omega
        | succ m =>
          obtain ⟨g', hg', _, g2', gc'⟩ := II.out m (by rw [HN.out]; omega)
          cases hg'
          have N3 : Hid (goodK L (m + 1 + 1) = (b && (decide ((L.getD m Rg.zero).to ≤ r1) && !((L.getD m Rg.zero).joins ⟨r1, r2, r3, r4, r5, r6⟩)))) := by
            show _ = _
            rw [N1.out, hb.out, show rok2 L (m + 1) = (decide ((L.getD m Rg.zero).to ≤ (L.getD (m + 1) Rg.zero).fr) && !((L.getD m Rg.zero).joins (L.getD (m + 1) Rg.zero))) from rfl, HR.out]; simp only [Bool.and_assoc]
          generalize L.getD m Rg.zero = ss at gc' N3
          obtain ⟨s1, s2, s3, s4, s5, s6⟩ := ss
          have i0 : decide ((0 : Int) < ((m + 1 : Nat) : Int)) = true := decide_eq_true (by omega)
          have i1 : ((m + 1 : Nat) : Int) - 1 = (m : Int) := by omega
          have i2 : (0 : Int) ≤ (m : Int) := by omega
          have i3 : (m : Int) < (n : Int) := by omega
          have x0 : wr.cell? ⟨g, m * 6, none⟩ = some (.int .i64 s1) := gc' 0 _ rfl
          have x1 : wr.cell? ⟨g, m * 6 + 1, none⟩ = some (.int .i64 s2) := gc' 1 _ rfl
          have x2 : wr.cell? ⟨g, m * 6 + 2, none⟩ = some (.bool s3) := gc' 2 _ rfl
          have x3 : wr.cell? ⟨g, m * 6 + 3, none⟩ = some (.bool s4) := gc' 3 _ rfl
          have x4 : wr.cell? ⟨g, m * 6 + 4, none⟩ = some (.bool s5) := gc' 4 _ rfl
          have x5 : wr.cell? ⟨g, m * 6 + 5, none⟩ = some (.int .i64 s6) := gc' 5 _ rfl
          clear gc' N1 NX hb HR
          have I2 : Hid (IsL ((wr.alloc (.cells #[.int .i64 r1, .int .i64 r2, .bool r3, .bool r4, .bool r5, .int .i64 r6] 31)).alloc (.cells #[.int .i64 s1, .int .i64 s2, .bool s3, .bool s4, .bool s5, .int .i64 s6] 31)) base (some ⟨g, 0, none⟩) L) := I1.out.below (Go.Joins.below_alloc1 _ _)
          have B2 : Hid (Below w.heap.size w ((wr.alloc (.cells #[.int .i64 r1, .int .i64 r2, .bool r3, .bool r4, .bool r5, .int .i64 r6] 31)).alloc (.cells #[.int .i64 s1, .int .i64 s2, .bool s3, .bool s4, .bool s5, .int .i64 s6] 31))) := below_new B1.out _
          clear I1 B1 II
          cases b
          · have N4 : Hid (goodK L (m + 1 + 1) = false) := by show _ = _; rw [N3.out]; rfl
            clear N3
            go_wp2_with fail
            go_roundw
            case rel => exact ⟨m + 1 + 1, false, by omega, rfl, by go_num, I2, B2, N4⟩
            case measure => simp [intOf]; omega
          by_cases c1 : s2 ≤ r1
          rotate_left
          · have d1 : decide (s2 ≤ r1) = false := by simp [c1]
            have K4 : Hid (false = (true && (decide (s2 ≤ r1) && !(Rg.joins ⟨s1, s2, s3, s4, s5, s6⟩ ⟨r1, r2, r3, r4, r5, r6⟩)))) := by show _ = _; rw [d1]; rfl
            have N4 : Hid (goodK L (m + 1 + 1) = false) := N3.out.trans K4.out.symm
            clear N3 K4
            go_wp2_with fail
            go_roundw
            case rel => exact ⟨m + 1 + 1, false, by omega, rfl, by go_num, I2, B2, N4⟩
            case measure => simp [intOf]; omega
          have d1 : decide (s2 ≤ r1) = true := by simp [c1]
          by_cases c2 : s2 = r1
          rotate_left
          · have d2 : (s2 == r1) = false := by simp [c2]
            have K4 : Hid (true = (true && (decide (s2 ≤ r1) && !(Rg.joins ⟨s1, s2, s3, s4, s5, s6⟩ ⟨r1, r2, r3, r4, r5, r6⟩)))) := by show _ = _; rw [d1]; unfold Rg.joins; simp [d2]
            clear c1 c2
            have N4 : Hid (goodK L (m + 1 + 1) = true) := N3.out.trans K4.out.symm
            clear N3 K4
            go_wp2_with fail
            go_roundw
            case rel => exact ⟨m + 1 + 1, true, by omega, rfl, by go_num, I2, B2, N4⟩
            case measure => simp [intOf]; omega
          have d2 : (s2 == r1) = true := by simp [c2]
          by_cases c3 : s3 = r3
          rotate_left
          · have d3 : (s3 == r3) = false := by simp [c3]
            have K4 : Hid (true = (true && (decide (s2 ≤ r1) && !(Rg.joins ⟨s1, s2, s3, s4, s5, s6⟩ ⟨r1, r2, r3, r4, r5, r6⟩)))) := by show _ = _; rw [d1]; unfold Rg.joins Rg.perm; simp [c3]
            clear c1 c2 c3
            have N4 : Hid (goodK L (m + 1 + 1) = true) := N3.out.trans K4.out.symm
            clear N3 K4
            go_wp2_with fail
            go_roundw
            case rel => exact ⟨m + 1 + 1, true, by omega, rfl, by go_num, I2, B2, N4⟩
            case measure => simp [intOf]; omega
          by_cases c4 : s4 = r4
          rotate_left
          · have d4 : (s4 == r4) = false := by simp [c4]
            have K4 : Hid (true = (true && (decide (s2 ≤ r1) && !(Rg.joins ⟨s1, s2, s3, s4, s5, s6⟩ ⟨r1, r2, r3, r4, r5, r6⟩)))) := by show _ = _; rw [d1]; unfold Rg.joins Rg.perm; simp [c4]
            subst c3
            clear c1 c2 c4
            have N4 : Hid (goodK L (m + 1 + 1) = true) := N3.out.trans K4.out.symm
            clear N3 K4
            go_wp2_with fail
            go_roundw
            case rel => exact ⟨m + 1 + 1, true, by omega, rfl, by go_num, I2, B2, N4⟩
            case measure => simp [intOf]; omega
          by_cases c5 : s5 = r5
          rotate_left
          · have d5 : (s5 == r5) = false := by simp [c5]
            have K4 : Hid (true = (true && (decide (s2 ≤ r1) && !(Rg.joins ⟨s1, s2, s3, s4, s5, s6⟩ ⟨r1, r2, r3, r4, r5, r6⟩)))) := by show _ = _; rw [d1]; unfold Rg.joins Rg.perm; simp [c5]
            subst c3 c4
            clear c1 c2 c5
            have N4 : Hid (goodK L (m + 1 + 1) = true) := N3.out.trans K4.out.symm
            clear N3 K4
            go_wp2_with fail
            go_roundw
            case rel => exact ⟨m + 1 + 1, true, by omega, rfl, by go_num, I2, B2, N4⟩
            case measure => simp [intOf]; omega
          subst c3 c4 c5
          by_cases c6 : s6 = r6
          · have d6 : (s6 == r6) = true := by simp [c6]
            have K4 : Hid (false = (true && (decide (s2 ≤ r1) && !(Rg.joins ⟨s1, s2, s3, s4, s5, s6⟩ ⟨r1, r2, s3, s4, s5, r6⟩)))) := by show _ = _; rw [d1]; unfold Rg.joins Rg.perm; simp [c2, c6]
            clear c1 c2 c6
            have N4 : Hid (goodK L (m + 1 + 1) = false) := N3.out.trans K4.out.symm
            clear N3 K4
            go_wp2_with fail
            go_roundw
            case rel => exact ⟨m + 1 + 1, false, by omega, rfl, by go_num, I2, B2, N4⟩
            case measure => simp [intOf]; omega
          · have d6 : (s6 == r6) = false := by simp [c6]
            have K4 : Hid (true = (true && (decide (s2 ≤ r1) && !(Rg.joins ⟨s1, s2, s3, s4, s5, s6⟩ ⟨r1, r2, s3, s4, s5, r6⟩)))) := by show _ = _; rw [d1]; unfold Rg.joins Rg.perm; simp [c6]
            clear c1 c2 c6
            have N4 : Hid (goodK L (m + 1 + 1) = true) := N3.out.trans K4.out.symm
            clear N3 K4
            go_wp2_with fail
            go_roundw
            case rel => exact ⟨m + 1 + 1, true, by omega, rfl, by go_num, I2, B2, N4⟩
            case measure => simp [intOf]; omega
    · obtain rfl : m = n := by omega
      have ez : gb = zz := hK.out.symm.trans HZ.out
      subst ez
      go_wp2_with fail
      go_ret
      exact ⟨rfl, hb.out⟩
end Go.Proofs.Ytngaodfajihmmaa
