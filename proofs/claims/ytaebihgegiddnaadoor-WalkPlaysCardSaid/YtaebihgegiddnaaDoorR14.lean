/- The contract of ram's Has with holes. -/
import Derived.Test.YtaebihgegiddnaaDoorRAwake
namespace Go.Proofs.YtaebihgegiddnaaDoor
open Go.ChangeShapes Go.WideShapes Go.ChangeAt Go.RowKit Go.Maps
set_option linter.unusedSimpArgs false
set_option linter.unusedVariables false
set_option maxRecDepth 8000

/-- is a frame in one of the holes? -/
def inH (hs : List (Int × Int)) (k : Int) : Bool := hs.any fun h => decide (h.1 ≤ k) && decide (k < h.2)
def hasH (F : Int) (hs : List (Int × Int)) (k : Int) : Bool := hasF F k && !inH hs k
/-- block hb holds these holes -/
def HolesAt (w : World) (hb : Nat) (hs : List (Int × Int)) : Prop := ∀ (j : Nat) (h : Int × Int), hs[j]? = some h → w.cell? ⟨hb, j * 2, none⟩ = some (.int .i64 h.1) ∧ w.cell? ⟨hb, j * 2 + 1, none⟩ = some (.int .i64 h.2)

set_option maxHeartbeats 400000 in
theorem has_holes (rb hb cap : Nat) (F k : Int) (hs : List (Int × Int)) (w : World) (hlen : hs.length ≤ 64) (c0 : w.cell? ⟨rb, 0, none⟩ = some (.int .i64 F)) (c1 : w.cell? ⟨rb, 1, none⟩ = some (.slice (some ⟨hb, 0, none⟩) hs.length cap))
    (hhb : hb < w.heap.size) (hh : HolesAt w hb hs) (k0 : 0 ≤ k) (k1 : k < F) :
    Calls Tryd.prog 18 #[.pointer (some ⟨rb, 0, none⟩), .int .i64 k] w fun e w' => e = .returned (.bool (!inH hs k)) ∧ w.grownBy w' none := by
  go_enter Tryd.func18, Tryd.ntmps18
  go_wp2
  go_loopw [22] (fun i wr => ∃ j : Nat, j ≤ hs.length ∧ i = .int .i64 j ∧ w.grownBy wr none ∧ inH (hs.take j) k = false) (fun i _ => hs.length - (intOf i).toNat)
  case atStart => exact ⟨0, by omega, rfl, World.grownBy.refl _ _, rfl⟩
  case round =>
    obtain ⟨j, hj, rfl, hg, hno⟩ := hrel
    by_cases cj : j < hs.length
    · obtain ⟨f, t, hft⟩ : ∃ f t : Int, hs[j]? = some (f, t) := ⟨(hs[j]).1, (hs[j]).2, by rw [List.getElem?_eq_getElem cj]⟩
      have hb2 := hg.block hb hhb (by simp)
      have q1 : wr.cell? ⟨hb, j * 2, none⟩ = some (.int .i64 f) := by rw [World.cell?_of_block (w := w) (a := ⟨hb, j * 2, none⟩) hb2]; exact (hh j _ hft).1
      have q2 : wr.cell? ⟨hb, j * 2 + 1, none⟩ = some (.int .i64 t) := by rw [World.cell?_of_block (w := w) (a := ⟨hb, j * 2 + 1, none⟩) hb2]; exact (hh j _ hft).2
      have htk : hs.take (j + 1) = hs.take j ++ [(f, t)] := by rw [List.take_add_one, hft]; rfl
      have hstep : inH (hs.take (j + 1)) k = (decide (f ≤ k) && decide (k < t)) := by
        rw [htk]; unfold inH at *; rw [List.any_append, hno]; simp
      by_cases cin : f ≤ k ∧ k < t
      · obtain ⟨d1, d2⟩ := cin
        have hin : inH hs k = true := by
          unfold inH; rw [List.any_eq_true]
          exact ⟨(f, t), List.mem_of_getElem? hft, by simp [d1, d2]⟩
        have HIN : Hid (inH hs k = true ∧ w.grownBy wr none) := ⟨hin, hg⟩
        clear hin hstep htk hno hft hb2 hh c0 c1 hg
        go_wp2
        go_ret
        exact ⟨by rw [HIN.out.1]; rfl, grown_trans HIN.out.2 (World.grownBy_alloc _ _ none)⟩
      · have HS : Hid (inH (hs.take (j + 1)) k = false ∧ w.grownBy wr none) := ⟨by rw [hstep]; by_cases e : f ≤ k <;> simp [e] <;> omega, hg⟩
        clear hstep htk hno hft hb2 hh c0 c1 hg
        by_cases d1 : f ≤ k
        · have d2 : ¬ k < t := fun e => cin ⟨d1, e⟩
          clear cin
          go_wp2
          go_roundw
          case rel => exact ⟨j + 1, by omega, by go_num, grown_trans HS.out.2 (World.grownBy_alloc _ _ none), HS.out.1⟩
          case measure => simp [intOf]; omega
        · clear cin
          go_wp2
          go_roundw
          case rel => exact ⟨j + 1, by omega, by go_num, grown_trans HS.out.2 (World.grownBy_alloc _ _ none), HS.out.1⟩
          case measure => simp [intOf]; omega
    · have e : j = hs.length := by omega
      subst e
      have HIN : Hid (inH hs k = false ∧ w.grownBy wr none) := ⟨by rw [List.take_length] at hno; exact hno, hg⟩
      clear hno hg hh
      go_wp2
      go_ret
      exact ⟨by rw [HIN.out.1]; rfl, HIN.out.2⟩
theorem has_out (rb : Nat) (F k : Int) (w : World) (c0 : w.cell? ⟨rb, 0, none⟩ = some (.int .i64 F)) (h : k < 0 ∨ F ≤ k) :
    Calls Tryd.prog 18 #[.pointer (some ⟨rb, 0, none⟩), .int .i64 k] w fun e w' => e = .returned (.bool false) ∧ w' = w := by
  by_cases a : k < 0
  · go_enter Tryd.func18, Tryd.ntmps18
    go_wp2
    go_ret
    exact ⟨rfl, rfl⟩
  · have b : F ≤ k := by omega
    go_enter Tryd.func18, Tryd.ntmps18
    go_wp2
    go_ret
    exact ⟨rfl, rfl⟩
theorem has_any (rb hb cap : Nat) (F k : Int) (hs : List (Int × Int)) (w : World) (hlen : hs.length ≤ 64) (c0 : w.cell? ⟨rb, 0, none⟩ = some (.int .i64 F)) (c1 : w.cell? ⟨rb, 1, none⟩ = some (.slice (some ⟨hb, 0, none⟩) hs.length cap))
    (hhb : hb < w.heap.size) (hh : HolesAt w hb hs) :
    Calls Tryd.prog 18 #[.pointer (some ⟨rb, 0, none⟩), .int .i64 k] w fun e w' => e = .returned (.bool (hasH F hs k)) ∧ w.grownBy w' none := by
  by_cases c : 0 ≤ k ∧ k < F
  · have e : hasH F hs k = !inH hs k := by unfold hasH hasF; rw [decide_eq_true c.1, decide_eq_true c.2]; rfl
    rw [e]; exact has_holes rb hb cap F k hs w hlen c0 c1 hhb hh c.1 c.2
  · have e : hasH F hs k = false := by
      unfold hasH hasF
      by_cases a : 0 ≤ k
      · rw [decide_eq_false (by omega : ¬ k < F), Bool.and_false, Bool.false_and]
      · rw [decide_eq_false a, Bool.false_and, Bool.false_and]
    rw [e]
    exact (has_out rb F k w c0 (by omega)).mono fun e w' ⟨h1, h2⟩ => ⟨h1, by rw [h2]; exact World.grownBy.refl _ _⟩
end Go.Proofs.YtaebihgegiddnaaDoor
