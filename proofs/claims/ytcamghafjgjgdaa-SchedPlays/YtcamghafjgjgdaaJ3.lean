/- The document's queue: Yield, Tick. -/
import Derived.Test.YtcamghafjgjgdaaJ2
namespace Go.Proofs.Ytcamghafjgjgdaa
open Go.ChangeShapes Go.WideShapes Go.ChangeAt Go.RowKit Go.Maps
set_option linter.unusedSimpArgs false
set_option linter.unusedVariables false

theorem below_drewA {w W : World} (h : Below w.drew.heap.size w.drew W) : Below w.heap.size w W := ⟨h.os, h.tape, h.output, h.size, h.block⟩
/-- the first k of those that wait behind a yield -/
def rowY (M : List Int) (k : Nat) : List Int := (List.range k).map (fun i => M[(i + 1) % M.length]?.getD 0)
theorem rowY_len (M : List Int) (k : Nat) : (rowY M k).length = k := by simp [rowY]
theorem rowY_next (M : List Int) (k : Nat) : rowY M (k + 1) = rowY M k ++ [M[(k + 1) % M.length]?.getD 0] := by simp [rowY, List.range_succ]
theorem rowY_all (M : List Int) : rowY M M.length = ylL M := by
  cases M with
  | nil => rfl
  | cons x r =>
    show _ = r ++ [x]
    apply List.ext_getElem
    · simp [rowY]
    · intro i h1 h2
      simp only [rowY, List.getElem_map, List.getElem_range]
      by_cases c : i < r.length
      · rw [List.getElem_append_left c, Nat.mod_eq_of_lt (show i + 1 < (x :: r).length by simp; omega)]
        simp [List.getElem?_eq_getElem c]
      · have e : i = r.length := by simp [rowY] at h1; omega
        subst e
        rw [List.getElem_append_right (Nat.le_refl _)]
        simp
set_option maxHeartbeats 4000000 in
theorem ryld_raw (q t : Int) (p : Option Addr) (c : Nat) (M : List Int) (hM : M.length ≤ 100) (base : Nat) (w : World) (hI : IsI w p M base) :
    Calls Try.prog 15 #[.agg #[.int .i64 q, .int .i64 t, .slice p M.length c]] w fun e w' => (∃ p' c', e = .returned (.agg #[.int .i64 q, .int .i64 0, .slice p' M.length c']) ∧ IsI w' p' (ylL M) w.heap.size) ∧ Below w.heap.size w w' := by
  have HY : Hid (∀ k, k < M.length → ∃ y, rowY M (k + 1) = rowY M k ++ [y] ∧ ∀ W : World, IsI W p M base → ∃ g, p = some ⟨g, 0, none⟩ ∧ g < W.heap.size ∧ W.cell? ⟨g, (k + 1) % M.length, none⟩ = some (.int .i64 y)) := fun k hk => by
    refine ⟨_, rowY_next M k, fun W h => ?_⟩
    have hm : (k + 1) % M.length < M.length := Nat.mod_lt _ (by omega)
    obtain ⟨g, e, _, l, cc⟩ := h _ hm
    exact ⟨g, e, l, by rw [cc, List.getElem?_eq_getElem hm]; rfl⟩
  have HAP : Hid (∀ (b : Nat) (v : Value) (k : Nat) (y : Int) (W : World), k ≤ M.length → OwnI W b v (rowY M k) → b ≤ W.heap.size → ∃ v' W2, (Builtin.append_ #[28, 28] 28 #[v, .slice (some ⟨W.heap.size, 0, none⟩) 1 1]).run Try.prog (W.alloc (.cells #[.int .i64 y] 3)) = .ok v' W2 ∧ OwnI W2 b v' (rowY M k ++ [y]) ∧ (W.alloc (.cells #[.int .i64 y] 3)).grownBy W2 v.ownBlock) := fun b v k y W hk h hb => app_next b v (rowY M k) y (by rw [rowY_len]; omega) W h hb
  have HEND : Hid (rowY M M.length = ylL M) := rowY_all M
  have HLY : Hid ((ylL M).length = M.length) := by show _ = _; rw [← rowY_all M, rowY_len]
  have HI : Hid (IsI w p M base) := hI
  clear hI
  obtain ⟨n, hn⟩ : ∃ n, n = M.length := ⟨_, rfl⟩
  rw [← hn] at HY HAP HEND HLY hM ⊢
  clear hn
  have P0 : Hid (Blk ((w.alloc (.cells #[.int .i64 q, .int .i64 0, .slice p n c] 30)).alloc (.cells #[.int .i64 0, .int .i64 0, .slice none 0 0] 30)) w.heap.size [.int .i64 q, .int .i64 0, .slice p n c] 30) := (Blk.made w _ _).below (Go.Joins.below_alloc1 _ _)
  have Q0 : Hid (Blk ((w.alloc (.cells #[.int .i64 q, .int .i64 0, .slice p n c] 30)).alloc (.cells #[.int .i64 0, .int .i64 0, .slice none 0 0] 30)) (w.heap.size + 1) [.int .i64 0, .int .i64 0, .slice none 0 0] 30) := by
    have := Blk.made (w.alloc (.cells #[.int .i64 q, .int .i64 0, .slice p n c] 30)) [.int .i64 0, .int .i64 0, .slice none 0 0] 30
    rw [World.size_alloc] at this; exact this
  have B0 : Hid (Below w.heap.size w ((w.alloc (.cells #[.int .i64 q, .int .i64 0, .slice p n c] 30)).alloc (.cells #[.int .i64 0, .int .i64 0, .slice none 0 0] 30))) := Go.Joins.below_alloc2 _ _ _
  have P1 : Hid (Blk (((w.alloc (.cells #[.int .i64 q, .int .i64 0, .slice p n c] 30)).alloc (.cells #[.int .i64 0, .int .i64 0, .slice none 0 0] 30)).alloc (.cells #[] 3)) w.heap.size [.int .i64 q, .int .i64 0, .slice p n c] 30) := P0.out.below (Go.Joins.below_alloc1 _ _)
  have Q1 : Hid (Blk (((w.alloc (.cells #[.int .i64 q, .int .i64 0, .slice p n c] 30)).alloc (.cells #[.int .i64 0, .int .i64 0, .slice none 0 0] 30)).alloc (.cells #[] 3)) (w.heap.size + 1) [.int .i64 0, .int .i64 0, .slice none 0 0] 30) := Q0.out.below (Go.Joins.below_alloc1 _ _)
  have B1 : Hid (Below w.heap.size w (((w.alloc (.cells #[.int .i64 q, .int .i64 0, .slice p n c] 30)).alloc (.cells #[.int .i64 0, .int .i64 0, .slice none 0 0] 30)).alloc (.cells #[] 3))) := below_new B0.out _
  have O1 : Hid (OwnI (((w.alloc (.cells #[.int .i64 q, .int .i64 0, .slice p n c] 30)).alloc (.cells #[.int .i64 0, .int .i64 0, .slice none 0 0] 30)).alloc (.cells #[] 3)) (w.heap.size + 2) (.slice (some ⟨w.heap.size + 2, 0, none⟩) 0 0) (rowY M 0)) := by
    have := OwnI.made ((w.alloc (.cells #[.int .i64 q, .int .i64 0, .slice p n c] 30)).alloc (.cells #[.int .i64 0, .int .i64 0, .slice none 0 0] 30)) (base := w.heap.size + 2) (by simp)
    simp only [World.size_alloc] at this
    exact this
  have S1 : Hid (w.heap.size + 2 ≤ (((w.alloc (.cells #[.int .i64 q, .int .i64 0, .slice p n c] 30)).alloc (.cells #[.int .i64 0, .int .i64 0, .slice none 0 0] 30)).alloc (.cells #[] 3)).heap.size) := by show _ ≤ _; simp
  go_enter Try.func15, Try.ntmps15
  go_wp2_with fail
  go_loopw [3, 10] (fun v x W => ∃ k : Nat, k ≤ n ∧ x = .int .i64 k ∧ Hid (OwnI W (w.heap.size + 2) v (rowY M k)) ∧ Hid (Blk W w.heap.size [.int .i64 q, .int .i64 0, .slice p n c] 30) ∧ Hid (Blk W (w.heap.size + 1) [.int .i64 0, .int .i64 0, .slice none 0 0] 30) ∧ Hid (Below w.heap.size w W) ∧ Hid (w.heap.size + 2 ≤ W.heap.size)) (fun _ x _ => n - (intOf x).toNat)
  case atStart => exact ⟨0, by omega, rfl, O1, P1, Q1, B1, S1⟩
  case round =>
    obtain ⟨k, hk, rfl, hO, hP, hQ, hB, hS⟩ := hrel
    by_cases hlt : k < n
    · have hd : decide ((k : Int) < (n : Int)) = true := by simp; omega
      obtain ⟨y, hy, hyc⟩ := HY.out k hlt
      obtain ⟨g, rfl, lg, cg⟩ := hyc wr (HI.out.below hB.out)
      obtain ⟨r, hr⟩ : ∃ r, r = (k + 1) % n := ⟨_, rfl⟩
      rw [← hr] at cg
      have t1 : ((k : Int) + 1).tmod (n : Int) = (r : Int) := by
        rw [hr, Int.tmod_eq_emod_of_nonneg (by omega)]; simp
      have rl : r < n := by rw [hr]; exact Nat.mod_lt _ (by omega)
      clear hyc hr
      have md4 : ((n : Int) == 0) = false := by simp; omega
      have md5 : ((n : Int) == -1) = false := by simp
      have md6 : ¬ (n : Int) = 0 := by omega
      have md7 : ¬ n = 0 := by omega
      have wk : IntKind.i64.wrap ((k : Int) + 1) = (k : Int) + 1 := by rw [IntKind.wrap_i64]; omega
      have pc2 : wr.cell? ⟨w.heap.size, 2, none⟩ = some (.slice (some ⟨g, 0, none⟩) n c) := hP.out.cell 2
      have lp : w.heap.size < wr.heap.size := blk_lt hP.out
      obtain ⟨v', W2, r1, o2, g2⟩ := HAP.out (w.heap.size + 2) u3 k y wr.drew (by omega) (own_keep hO.out (fun _ _ _ => rfl)) hS.out
      have r2 : (Builtin.append_ #[28, 28] 28 #[u3, .slice (some ⟨wr.heap.size, 0, none⟩) 1 1]).run Try.prog (wr.drew.alloc (.cells #[.int .i64 y] 3)) = .ok v' W2 := r1
      have ow := hO.out.base
      have OO : Hid (OwnI W2 (w.heap.size + 2) v' (rowY M (k + 1))) := by show OwnI _ _ _ _; rw [hy]; exact o2
      have PP : Hid (Blk W2 w.heap.size [.int .i64 q, .int .i64 0, .slice (some ⟨g, 0, none⟩) n c] 30) := (g2.block w.heap.size (by rw [World.size_alloc]; exact Nat.lt_succ_of_lt lp) (fun e => by have := ow _ e.symm; omega)).trans (hP.out.below (below_drewA (Go.Joins.below_alloc1 _ _)))
      have QQ : Hid (Blk W2 (w.heap.size + 1) [.int .i64 0, .int .i64 0, .slice none 0 0] 30) := (g2.block (w.heap.size + 1) (by rw [World.size_alloc]; have := blk_lt hQ.out; exact Nat.lt_succ_of_lt this) (fun e => by have := ow _ e.symm; omega)).trans (hQ.out.below (below_drewA (Go.Joins.below_alloc1 _ _)))
      have BB : Hid (Below w.heap.size w W2) := below_grown (below_new (below_drew hB.out) _) ow (by omega) g2
      have SS : Hid (w.heap.size + 2 ≤ W2.heap.size) := Nat.le_trans (Nat.le_trans hS.out (by rw [World.size_alloc]; exact Nat.le_succ _)) g2.size
      clear hO hQ hB hS r1 o2 g2 ow hy
      go_wp2_with fail
      go_region_law (refine step_app rfl (.tmp 13) (.tmp 24) 28 rfl u3 (.slice (some ⟨wr.heap.size, 0, none⟩) 1 1) (by simp [Act.eval, Act.put]) (by simp [Act.eval, Act.put]) v' W2 r2 ?_)
      all_goals (go_wp2_with fail)
      all_goals (go_roundw)
      all_goals (first | (case rel => exact ⟨k + 1, by omega, by go_num, OO, PP, QQ, BB, SS⟩) | skip)
      all_goals (first | (case measure => simp [intOf]; omega) | skip)
    · obtain rfl : k = n := by omega
      have hd : decide ((k : Int) < (k : Int)) = false := by simp
      obtain ⟨p3, c3, hv3, i3⟩ := hO.out.read
      rw [HEND.out] at hv3 i3
      rw [HLY.out] at hv3
      subst hv3
      have I3 : Hid (IsI wr p3 (ylL M) (w.heap.size + 2)) := i3
      clear i3 hO
      have lp : w.heap.size < wr.heap.size := blk_lt hP.out
      have lq : w.heap.size + 1 < wr.heap.size := blk_lt hQ.out
      have ppc0 : wr.cell? ⟨w.heap.size, 0, none⟩ = some (.int .i64 q) := hP.out.cell 0
      have ppf0 : wr.frozen? ⟨w.heap.size, 0, none⟩ = false := hP.out.free 0
      have ppc1 : wr.cell? ⟨w.heap.size, 1, none⟩ = some (.int .i64 0) := hP.out.cell 1
      have ppf1 : wr.frozen? ⟨w.heap.size, 1, none⟩ = false := hP.out.free 1
      have ppc2 : wr.cell? ⟨w.heap.size, 2, none⟩ = some (.slice p k c) := hP.out.cell 2
      have ppf2 : wr.frozen? ⟨w.heap.size, 2, none⟩ = false := hP.out.free 2
      have qc0 : wr.cell? ⟨(w.heap.size + 1), 0, none⟩ = some (.int .i64 0) := hQ.out.cell 0
      have qf0 : wr.frozen? ⟨(w.heap.size + 1), 0, none⟩ = false := hQ.out.free 0
      have qc1 : wr.cell? ⟨(w.heap.size + 1), 1, none⟩ = some (.int .i64 0) := hQ.out.cell 1
      have qf1 : wr.frozen? ⟨(w.heap.size + 1), 1, none⟩ = false := hQ.out.free 1
      have qc2 : wr.cell? ⟨(w.heap.size + 1), 2, none⟩ = some (.slice none 0 0) := hQ.out.cell 2
      have qf2 : wr.frozen? ⟨(w.heap.size + 1), 2, none⟩ = false := hQ.out.free 2
      go_wp2_with fail
      have QF : Hid (Blk (wr.setCell ⟨w.heap.size, 2, none⟩ (.slice p3 k c3)) (w.heap.size + 1) [.int .i64 0, .int .i64 0, .slice none 0 0] 30) := hQ.out.far _ _ (by omega)
      change bodyPost _ _ _ _ _ (World.setCells (wr.setCell ⟨w.heap.size, 2, none⟩ (.slice p3 k c3)) (w.heap.size + 1) 0 [.int .i64 q, .int .i64 0, .slice p3 k c3])
      have hr := run_loadVar_mid (P := Try.prog) (World.setCells (wr.setCell ⟨w.heap.size, 2, none⟩ (.slice p3 k c3)) (w.heap.size + 1) 0 [.int .i64 q, .int .i64 0, .slice p3 k c3]) (w.heap.size + 1) 0 30 [.int .i64 q, .int .i64 0, .slice p3 k c3] _ (World.rangeAt_setCells_same _ (w.heap.size + 1) 0 [.int .i64 q, .int .i64 0, .slice p3 k c3] (show World.there (wr.setCell ⟨w.heap.size, 2, none⟩ (.slice p3 k c3)) (w.heap.size + 1) 0 3 from QF.out.there)) Try.underlying30 rfl refq_info
      refine bodyPost_ret (v := .agg #[.int .i64 q, .int .i64 0, .slice p3 k c3]) ?_ rfl ⟨⟨p3, c3, rfl, (isi_scs (I3.out.kb (Kb.set _ _ _ _) (by omega)) (by omega) _ _).low (by omega)⟩, below_scs (hB.out.setCell (Nat.le_refl _) _) (by omega) _ _⟩
      exact results_one Try.results15 _ _ _ _ _ rfl hr
end Go.Proofs.Ytcamghafjgjgdaa
