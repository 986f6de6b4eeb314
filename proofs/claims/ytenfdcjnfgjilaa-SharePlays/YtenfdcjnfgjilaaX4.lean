/- Grants: the document's Lent. -/
import Derived.Test.YtenfdcjnfgjilaaX0
namespace Go.Proofs.Ytenfdcjnfgjilaa
open Go.ChangeShapes Go.WideShapes Go.ChangeAt Go.RowKit Go.Maps
set_option linter.unusedSimpArgs false
set_option linter.unusedVariables false
set_option maxRecDepth 8000
set_option maxRecDepth 8000
set_option maxRecDepth 8000

set_option maxHeartbeats 8000000 in
theorem rlent_any (base : Nat) (p : Option Addr) (c : Nat) (L : List Rq) (hL : L.length ≤ 256) (f b : Int) (w : World) (h : IsRq w base p L) :
    Calls Try.prog 13 #[.slice p L.length c, .int .i64 f, .int .i64 b] w fun e w' => e = .returned (.int .i64 (lentQ L f b : Nat)) ∧ Below w.heap.size w w' := by
  have HI : Hid (IsRq w base p L) := h
  have RES : Hid (lentQ (L.take L.length) f b = lentQ L f b) := by show _ = _; rw [List.take_length]
  generalize lentQ L f b = RR at RES ⊢
  clear h
  obtain ⟨n, hn⟩ : ∃ n, L.length = n := ⟨_, rfl⟩
  have HN : Hid (L.length = n) := hn
  rw [hn] at hL RES ⊢
  clear hn
  go_enter Try.func13, Try.ntmps13
  go_wp2_with fail
  go_loopw [7, 12] (fun v y W => ∃ m N : Nat, m ≤ n ∧ N ≤ m ∧ y = .int .i64 m ∧ v = .int .i64 N ∧ Hid (lentQ (L.take m) f b = N) ∧ Hid (Below w.heap.size w W) ∧ Hid (IsRq W base p L)) (fun _ y _ => n - (intOf y).toNat)
  case atStart => exact ⟨0, 0, by omega, by omega, rfl, rfl, rfl, Below.refl _ _, HI⟩
  case round =>
    obtain ⟨m, N, hm, hN6, rfl, rfl, HC, Bl, hI⟩ := hrel
    by_cases hlt : m < n
    · have hd : decide ((m : Int) < (n : Int)) = true := by simp; omega
      have NX : Hid (lentQ (L.take (m + 1)) f b = N + lentQ [L.getD m Rq.zero] f b) := by show _ = _; rw [← HC.out, takeQ L m (by rw [HN.out]; exact hlt)]; unfold lentQ; rw [List.filter_append, List.length_append]
      obtain ⟨g, rfl, g1, g2, gc⟩ := hI.out m (by rw [HN.out]; exact hlt)
      generalize L.getD m Rq.zero = r at gc NX
      obtain ⟨qi, qf, qp, qd, qw, qt, qa⟩ := r
      have y0 : wr.cell? ⟨g, m * 7, none⟩ = some (.int .i64 qi) := gc 0 _ rfl
      have y1 : wr.cell? ⟨g, m * 7 + 1, none⟩ = some (.int .i64 qf) := gc 1 _ rfl
      have y2 : wr.cell? ⟨g, m * 7 + 2, none⟩ = some (.int .i64 qp) := gc 2 _ rfl
      have y3 : wr.cell? ⟨g, m * 7 + 3, none⟩ = some (.int .i64 qd) := gc 3 _ rfl
      have y4 : wr.cell? ⟨g, m * 7 + 4, none⟩ = some (.bool qw) := gc 4 _ rfl
      have y5 : wr.cell? ⟨g, m * 7 + 5, none⟩ = some (.bool qt) := gc 5 _ rfl
      have y6 : wr.cell? ⟨g, m * 7 + 6, none⟩ = some (.int .i64 qa) := gc 6 _ rfl
      clear gc HC RES
      have mI : (m : Int) < (n : Int) := by omega
      have mn : (n : Int) ≤ 256 := by omega
      by_cases c1 : qf = f
      · have e1 : (qf == f) = true := by simp [c1]
        have C1 : Hid (qf = f) := c1
        clear c1
        by_cases c2 : qp = b
        · have e2 : (qp == b) = true := by simp [c2]
          have C2 : Hid (qp = b) := c2
          clear c2
          cases qt
          · skip
            have N2 : Hid (lentQ (L.take (m + 1)) f b = N) := by show _ = _; rw [NX.out]; simp [lentQ, C1.out, C2.out]
            clear NX
            go_wp2_with fail
            go_roundw
            case rel => exact ⟨m + 1, N, by omega, by omega, by go_num, rfl, N2, below_new Bl.out _, hI.out.below (Go.Joins.below_alloc1 _ _)⟩
            case measure => simp [intOf]; omega
          · skip
            have N2 : Hid (lentQ (L.take (m + 1)) f b = N + 1) := by show _ = _; rw [NX.out]; simp [lentQ, C1.out, C2.out]
            clear NX
            go_wp2_with fail
            go_roundw
            case rel => exact ⟨m + 1, N + 1, by omega, by omega, by go_num, by go_num, N2, below_new Bl.out _, hI.out.below (Go.Joins.below_alloc1 _ _)⟩
            case measure => simp [intOf]; omega
        · have e2 : (qp == b) = false := by simp [c2]
          have N2 : Hid (lentQ (L.take (m + 1)) f b = N) := by show _ = _; rw [NX.out]; simp [lentQ, C1.out, c2]
          clear NX
          go_wp2_with fail
          go_roundw
          case rel => exact ⟨m + 1, N, by omega, by omega, by go_num, rfl, N2, below_new Bl.out _, hI.out.below (Go.Joins.below_alloc1 _ _)⟩
          case measure => simp [intOf]; omega
      · have e1 : (qf == f) = false := by simp [c1]
        have N2 : Hid (lentQ (L.take (m + 1)) f b = N) := by show _ = _; rw [NX.out]; simp [lentQ, c1]
        clear NX
        go_wp2_with fail
        go_roundw
        case rel => exact ⟨m + 1, N, by omega, by omega, by go_num, rfl, N2, below_new Bl.out _, hI.out.below (Go.Joins.below_alloc1 _ _)⟩
        case measure => simp [intOf]; omega
    · have hd : decide ((m : Int) < (n : Int)) = false := by simp; omega
      obtain rfl : m = n := by omega
      have hR : RR = N := by rw [← RES.out]; exact HC.out
      go_wp2_with fail
      go_ret
      exact ⟨by rw [hR]; rfl, Bl.out⟩
end Go.Proofs.Ytenfdcjnfgjilaa
