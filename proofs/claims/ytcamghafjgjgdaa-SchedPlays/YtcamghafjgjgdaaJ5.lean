/- The document's queue: Remove. -/
import Derived.Test.YtcamghafjgjgdaaJ4
namespace Go.Proofs.Ytcamghafjgjgdaa
open Go.ChangeShapes Go.WideShapes Go.ChangeAt Go.RowKit Go.Maps
set_option linter.unusedSimpArgs false
set_option linter.unusedVariables false

/-- the list without x -/
def wo (M : List Int) (x : Int) : List Int := M.filter (fun y => !(y == x))
theorem wo_next (M : List Int) (x : Int) (k : Nat) (hk : k < M.length) : wo (M.take (k + 1)) x = if M[k] = x then wo (M.take k) x else wo (M.take k) x ++ [M[k]] := by
  rw [wo, ← List.take_append_getElem hk, List.filter_append]
  by_cases e : M[k] = x
  · simp [e, wo]
  · simp [e, wo]
theorem wo_le (M : List Int) (x : Int) : (wo M x).length ≤ M.length := List.length_filter_le _ _
theorem wo_not {M : List Int} {x : Int} (h : x ∉ M) : wo M x = M := by
  rw [wo, List.filter_eq_self]
  intro a ha
  have : a ≠ x := fun e => h (e ▸ ha)
  simp [this]
theorem erase_wo : ∀ (M : List Int) (x : Int), M.Nodup → x ∈ M → M.eraseIdx (fstAt M x) = wo M x
  | [], x, _, h => by simp at h
  | a :: r, x, hd, h => by
    rw [List.nodup_cons] at hd
    by_cases e : a = x
    · subst e
      have : fstAt (a :: r) a = 0 := by simp [fstAt, List.findIdx_cons]
      rw [this]
      show r = wo (a :: r) a
      have : wo (a :: r) a = wo r a := by simp [wo]
      rw [this, wo_not hd.1]
    · have h2 : x ∈ r := by
        rcases List.mem_cons.1 h with q | q
        · exact absurd q.symm e
        · exact q
      have ef : (a == x) = false := by simp [e]
      have f : fstAt (a :: r) x = fstAt r x + 1 := by simp [fstAt, List.findIdx_cons, ef]
      rw [f]
      show a :: r.eraseIdx (fstAt r x) = _
      rw [erase_wo r x hd.2 h2]
      simp [wo, e]
set_option maxHeartbeats 2000000 in
theorem rrem5 (q t x : Int) (p : Option Addr) (n c : Nat) (w : World)
    (HC : Hid (∀ W : World, Below w.heap.size w W → Calls Try.prog 24 #[.agg #[.int .i64 q, .int .i64 t, .slice p n c], .int .i64 x] W fun e w' => e = .returned (.bool false) ∧ Below W.heap.size W w')) :
    Calls Try.prog 13 #[.agg #[.int .i64 q, .int .i64 t, .slice p n c], .int .i64 x] w fun e w' => e = .returned (.tuple #[.agg #[.int .i64 q, .int .i64 t, .slice p n c], .int .i64 5]) ∧ Below w.heap.size w w' := by
  have P0 : Hid (Blk ((w.alloc (.cells #[.int .i64 q, .int .i64 t, .slice p n c] 30)).alloc (.cells #[.int .i64 0, .int .i64 0, .slice none 0 0] 30)) w.heap.size [.int .i64 q, .int .i64 t, .slice p n c] 30) := (Blk.made w _ _).below (Go.Joins.below_alloc1 _ _)
  have Q0 : Hid (Blk ((w.alloc (.cells #[.int .i64 q, .int .i64 t, .slice p n c] 30)).alloc (.cells #[.int .i64 0, .int .i64 0, .slice none 0 0] 30)) (w.heap.size + 1) [.int .i64 0, .int .i64 0, .slice none 0 0] 30) := by
    have := Blk.made (w.alloc (.cells #[.int .i64 q, .int .i64 t, .slice p n c] 30)) [.int .i64 0, .int .i64 0, .slice none 0 0] 30
    rw [World.size_alloc] at this; exact this
  go_enter Try.func13, Try.ntmps13
  go_wp2_with fail
  refine (HC.out _ (Go.Joins.below_alloc2 _ _ _)).mono ?_
  rintro e u ⟨rfl, hb⟩
  have B1 : Hid (Below w.heap.size w u) := below_then (Go.Joins.below_alloc2 _ _ _) hb
  have P1 : Hid (Blk u w.heap.size [.int .i64 q, .int .i64 t, .slice p n c] 30) := P0.out.below hb
  have Q1 : Hid (Blk u (w.heap.size + 1) [.int .i64 0, .int .i64 0, .slice none 0 0] 30) := Q0.out.below hb
  clear hb P0 Q0
  have lp : w.heap.size < u.heap.size := blk_lt P1.out
  have lq : w.heap.size + 1 < u.heap.size := blk_lt Q1.out
  have pc0 : u.cell? ⟨w.heap.size, 0, none⟩ = some (.int .i64 q) := P1.out.cell 0
  have pc1 : u.cell? ⟨w.heap.size, 1, none⟩ = some (.int .i64 t) := P1.out.cell 1
  have pc2 : u.cell? ⟨w.heap.size, 2, none⟩ = some (.slice p n c) := P1.out.cell 2
  have qc0 : u.cell? ⟨(w.heap.size + 1), 0, none⟩ = some (.int .i64 0) := Q1.out.cell 0
  have qf0 : u.frozen? ⟨(w.heap.size + 1), 0, none⟩ = false := Q1.out.free 0
  have qc1 : u.cell? ⟨(w.heap.size + 1), 1, none⟩ = some (.int .i64 0) := Q1.out.cell 1
  have qf1 : u.frozen? ⟨(w.heap.size + 1), 1, none⟩ = false := Q1.out.free 1
  have qc2 : u.cell? ⟨(w.heap.size + 1), 2, none⟩ = some (.slice none 0 0) := Q1.out.cell 2
  have qf2 : u.frozen? ⟨(w.heap.size + 1), 2, none⟩ = false := Q1.out.free 2
  go_wp2_with fail
  change bodyPost _ _ _ _ _ (World.setCells u (w.heap.size + 1) 0 [.int .i64 q, .int .i64 t, .slice p n c])
  have hr := run_loadVar_mid (P := Try.prog) (World.setCells u (w.heap.size + 1) 0 [.int .i64 q, .int .i64 t, .slice p n c]) (w.heap.size + 1) 0 30 [.int .i64 q, .int .i64 t, .slice p n c] _ (World.rangeAt_setCells_same _ (w.heap.size + 1) 0 [.int .i64 q, .int .i64 t, .slice p n c] (show World.there u (w.heap.size + 1) 0 3 from Q1.out.there)) Try.underlying30 rfl refq_info
  refine bodyPost_ret (v := .tuple #[.agg #[.int .i64 q, .int .i64 t, .slice p n c], .int .i64 5]) ?_ rfl ⟨rfl, below_scs B1.out (by omega) _ _⟩
  exact results_pair Try.results13 _ _ _ _ _ _ rfl rfl hr
set_option maxHeartbeats 8000000 in
theorem rrem0n (q t x : Int) (p : Option Addr) (c : Nat) (M : List Int) (hM : M.length ≤ 100) (base : Nat) (hm : 0 < M.length) (hx : ¬ M[0] = x) (w : World) (hI : IsI w p M base)
    (HC : Hid (∀ W : World, Below w.heap.size w W → Calls Try.prog 24 #[.agg #[.int .i64 q, .int .i64 t, .slice p M.length c], .int .i64 x] W fun e w' => e = .returned (.bool true) ∧ Below W.heap.size W w')) :
    Calls Try.prog 13 #[.agg #[.int .i64 q, .int .i64 t, .slice p M.length c], .int .i64 x] w fun e w' => (∃ p' c', e = .returned (.tuple #[.agg #[.int .i64 q, .int .i64 t, .slice p' (wo M x).length c'], .int .i64 0]) ∧ IsI w' p' (wo M x) w.heap.size) ∧ Below w.heap.size w w' := by
  obtain ⟨g0, hg0, lg0, _⟩ : ∃ g0, p = some ⟨g0, 0, none⟩ ∧ g0 < w.heap.size ∧ True := by
    obtain ⟨g, e, _, l, _⟩ := hI 0 hm
    exact ⟨g, e, l, trivial⟩
  subst hg0
  have CE : Hid (∀ W : World, Below w.heap.size w W → ∀ k (hk : k < M.length), W.cell? ⟨g0, k, none⟩ = some (.int .i64 M[k])) := fun W hb k hk => by
    obtain ⟨g, e, _, l, cc⟩ := hI k hk
    cases e
    exact (World.cell?_of_block (hb.block g0 l)).trans cc
  obtain ⟨m0, hm0⟩ : ∃ m0, m0 = M[0] := ⟨_, rfl⟩
  have C0 : Hid (∀ W : World, Below w.heap.size w W → W.cell? ⟨g0, 0, none⟩ = some (.int .i64 m0)) := fun W hb => by rw [hm0]; exact CE.out W hb 0 hm
  rw [← hm0] at hx
  clear hm0
  have WN : Hid (∀ k (hk : k < M.length), wo (M.take (k + 1)) x = if M[k] = x then wo (M.take k) x else wo (M.take k) x ++ [M[k]]) := fun k hk => wo_next M x k hk
  have HAP : Hid (∀ (b : Nat) (v : Value) (k : Nat) (y : Int) (W : World), OwnI W b v (wo (M.take k) x) → b ≤ W.heap.size → ∃ v' W2, (Builtin.append_ #[28, 28] 28 #[v, .slice (some ⟨W.heap.size, 0, none⟩) 1 1]).run Try.prog (W.alloc (.cells #[.int .i64 y] 3)) = .ok v' W2 ∧ OwnI W2 b v' (wo (M.take k) x ++ [y]) ∧ (W.alloc (.cells #[.int .i64 y] 3)).grownBy W2 v.ownBlock) := fun b v k y W h hb => app_next b v (wo (M.take k) x) y (by have := wo_le (M.take k) x; have : (M.take k).length ≤ M.length := (by simp; omega); omega) W h hb
  have HEND : Hid (M.take M.length = M) := List.take_length
  clear hI
  obtain ⟨n, hn⟩ : ∃ n, n = M.length := ⟨_, rfl⟩
  have Hn : Hid (n = M.length) := hn
  rw [← hn] at hM hm HC ⊢
  clear hn
  obtain ⟨m, hmm⟩ : ∃ m, m = (wo M x).length := ⟨_, rfl⟩
  have Hm : Hid (m = (wo M x).length) := hmm
  rw [← hmm]
  clear hmm
  have P0 : Hid (Blk ((w.alloc (.cells #[.int .i64 q, .int .i64 t, .slice (some ⟨g0, 0, none⟩) n c] 30)).alloc (.cells #[.int .i64 0, .int .i64 0, .slice none 0 0] 30)) w.heap.size [.int .i64 q, .int .i64 t, .slice (some ⟨g0, 0, none⟩) n c] 30) := (Blk.made w _ _).below (Go.Joins.below_alloc1 _ _)
  have Q0 : Hid (Blk ((w.alloc (.cells #[.int .i64 q, .int .i64 t, .slice (some ⟨g0, 0, none⟩) n c] 30)).alloc (.cells #[.int .i64 0, .int .i64 0, .slice none 0 0] 30)) (w.heap.size + 1) [.int .i64 0, .int .i64 0, .slice none 0 0] 30) := by
    have := Blk.made (w.alloc (.cells #[.int .i64 q, .int .i64 t, .slice (some ⟨g0, 0, none⟩) n c] 30)) [.int .i64 0, .int .i64 0, .slice none 0 0] 30
    rw [World.size_alloc] at this; exact this
  have xe : (m0 == x) = false := by simp [hx]
  go_enter Try.func13, Try.ntmps13
  go_wp2_with fail
  refine (HC.out _ (Go.Joins.below_alloc2 _ _ _)).mono ?_
  rintro e u ⟨rfl, hb⟩
  have B1 : Hid (Below w.heap.size w u) := below_then (Go.Joins.below_alloc2 _ _ _) hb
  have P1 : Hid (Blk u w.heap.size [.int .i64 q, .int .i64 t, .slice (some ⟨g0, 0, none⟩) n c] 30) := P0.out.below hb
  have Q1 : Hid (Blk u (w.heap.size + 1) [.int .i64 0, .int .i64 0, .slice none 0 0] 30) := Q0.out.below hb
  clear hb P0 Q0
  have lp : w.heap.size < u.heap.size := blk_lt P1.out
  have lq : w.heap.size + 1 < u.heap.size := blk_lt Q1.out
  have lg : g0 < u.heap.size := Nat.lt_of_lt_of_le lg0 B1.out.size
  have ne0 : ¬ g0 = w.heap.size := by omega
  have nw : Hid (g0 ≠ w.heap.size) := by show _ ≠ _; omega
  have m0c := C0.out u B1.out
  have nn0 : decide ((0 : Int) < (n : Int)) = true := by simp; omega
  have nn1 : decide (0 < n) = true := by simp; omega
  have pc0 : u.cell? ⟨w.heap.size, 0, none⟩ = some (.int .i64 q) := P1.out.cell 0
  have pf0 : u.frozen? ⟨w.heap.size, 0, none⟩ = false := P1.out.free 0
  have pc1 : u.cell? ⟨w.heap.size, 1, none⟩ = some (.int .i64 t) := P1.out.cell 1
  have pf1 : u.frozen? ⟨w.heap.size, 1, none⟩ = false := P1.out.free 1
  have pc2 : u.cell? ⟨w.heap.size, 2, none⟩ = some (.slice (some ⟨g0, 0, none⟩) n c) := P1.out.cell 2
  have pf2 : u.frozen? ⟨w.heap.size, 2, none⟩ = false := P1.out.free 2
  have VP : Hid (Blk (u.alloc (.cells #[] 3)) w.heap.size [.int .i64 q, .int .i64 t, .slice (some ⟨g0, 0, none⟩) n c] 30) := P1.out.below (Go.Joins.below_alloc1 _ _)
  have VQ : Hid (Blk (u.alloc (.cells #[] 3)) (w.heap.size + 1) [.int .i64 0, .int .i64 0, .slice none 0 0] 30) := Q1.out.below (Go.Joins.below_alloc1 _ _)
  have VB : Hid (Below w.heap.size w (u.alloc (.cells #[] 3))) := below_new B1.out _
  have VO : Hid (OwnI (u.alloc (.cells #[] 3)) (w.heap.size + 2) (.slice (some ⟨u.heap.size, 0, none⟩) 0 0) (wo (M.take 0) x)) := by
    have := OwnI.made u (base := w.heap.size + 2) (by omega)
    skip
    exact this
  have VS : Hid (w.heap.size + 2 ≤ (u.alloc (.cells #[] 3)).heap.size) := by show _ ≤ _; simp; omega
  go_wp2_with fail
  go_loopw [6, 25] (fun v y W => ∃ k : Nat, k ≤ n ∧ y = .int .i64 k ∧ Hid (OwnI W (w.heap.size + 2) v (wo (M.take k) x)) ∧ Hid (Blk W w.heap.size [.int .i64 q, .int .i64 t, .slice (some ⟨g0, 0, none⟩) n c] 30) ∧ Hid (Blk W (w.heap.size + 1) [.int .i64 0, .int .i64 0, .slice none 0 0] 30) ∧ Hid (Below w.heap.size w W) ∧ Hid (w.heap.size + 2 ≤ W.heap.size)) (fun _ y _ => n - (intOf y).toNat)
  case atStart => exact ⟨0, by omega, rfl, VO, VP, VQ, VB, VS⟩
  case round =>
    obtain ⟨k, hk, rfl, hO, hP, hQ, hB, hS⟩ := hrel
    by_cases hlt : k < n
    · have hd : decide ((k : Int) < (n : Int)) = true := by simp; omega
      have hkM : k < M.length := by have := Hn.out; omega
      have wn := WN.out k hkM
      have ck := CE.out wr hB.out k hkM
      have lgw : g0 < wr.heap.size := Nat.lt_of_lt_of_le lg0 hB.out.size
      generalize M[k] = y at wn ck
      by_cases e : y = x
      · have e1 : (y == x) = true := by simp [e]
        have e2 : (y != x) = false := by simp [e]
        rw [if_pos e] at wn
        have OO : Hid (OwnI wr (w.heap.size + 2) u6 (wo (M.take (k + 1)) x)) := by show OwnI _ _ _ _; rw [wn]; exact hO.out
        clear wn
        subst e
        go_wp2_with fail
        go_roundw
        case rel => exact ⟨k + 1, by omega, by go_num, OO, hP, hQ, hB, hS⟩
        case measure => simp [intOf]; omega
      · have e1 : (y == x) = false := by simp [e]
        have e2 : (y != x) = true := by simp [e]
        rw [if_neg e] at wn
        obtain ⟨v', W2, r1, o2, g2⟩ := HAP.out (w.heap.size + 2) u6 k y wr hO.out hS.out
        have ow := hO.out.base
        have OO : Hid (OwnI W2 (w.heap.size + 2) v' (wo (M.take (k + 1)) x)) := by show OwnI _ _ _ _; rw [wn]; exact o2
        have PP : Hid (Blk W2 w.heap.size [.int .i64 q, .int .i64 t, .slice (some ⟨g0, 0, none⟩) n c] 30) := (g2.block w.heap.size (by rw [World.size_alloc]; have := blk_lt hP.out; omega) (fun e => by have := ow _ e.symm; omega)).trans (hP.out.below (Go.Joins.below_alloc1 _ _))
        have QQ : Hid (Blk W2 (w.heap.size + 1) [.int .i64 0, .int .i64 0, .slice none 0 0] 30) := (g2.block (w.heap.size + 1) (by rw [World.size_alloc]; have := blk_lt hQ.out; omega) (fun e => by have := ow _ e.symm; omega)).trans (hQ.out.below (Go.Joins.below_alloc1 _ _))
        have BB : Hid (Below w.heap.size w W2) := below_grown (below_new hB.out _) ow (by omega) g2
        have SS : Hid (w.heap.size + 2 ≤ W2.heap.size) := Nat.le_trans (Nat.le_trans hS.out (by rw [World.size_alloc]; exact Nat.le_succ _)) g2.size
        clear hO hQ hB hS o2 g2 ow wn hP
        go_wp2_with (at_builtin; refine wpList_app rfl _ _ 28 rfl u6 (.slice (some ⟨wr.heap.size, 0, none⟩) 1 1) rfl rfl v' W2 r1 ?_)
        try go_wp2_with fail
        go_roundw
        case rel => exact ⟨k + 1, by omega, by go_num, OO, PP, QQ, BB, SS⟩
        case measure => simp [intOf]; omega
    · obtain rfl : k = n := by omega
      have hd : decide ((k : Int) < (k : Int)) = false := by simp
      obtain ⟨p3, c3, hv3, i3⟩ := hO.out.read
      have te : M.take k = M := by rw [Hn.out]; exact List.take_length
      rw [te] at hv3 i3
      rw [← Hm.out] at hv3
      subst hv3
      have I3 : Hid (IsI wr p3 (wo M x) (w.heap.size + 2)) := i3
      clear i3 hO te
      have lp2 : w.heap.size < wr.heap.size := blk_lt hP.out
      have lq2 : w.heap.size + 1 < wr.heap.size := blk_lt hQ.out
      have ppc0 : wr.cell? ⟨w.heap.size, 0, none⟩ = some (.int .i64 q) := hP.out.cell 0
      have ppf0 : wr.frozen? ⟨w.heap.size, 0, none⟩ = false := hP.out.free 0
      have ppc1 : wr.cell? ⟨w.heap.size, 1, none⟩ = some (.int .i64 t) := hP.out.cell 1
      have ppf1 : wr.frozen? ⟨w.heap.size, 1, none⟩ = false := hP.out.free 1
      have ppc2 : wr.cell? ⟨w.heap.size, 2, none⟩ = some (.slice (some ⟨g0, 0, none⟩) k c) := hP.out.cell 2
      have ppf2 : wr.frozen? ⟨w.heap.size, 2, none⟩ = false := hP.out.free 2
      have qqc0 : wr.cell? ⟨(w.heap.size + 1), 0, none⟩ = some (.int .i64 0) := hQ.out.cell 0
      have qqf0 : wr.frozen? ⟨(w.heap.size + 1), 0, none⟩ = false := hQ.out.free 0
      have qqc1 : wr.cell? ⟨(w.heap.size + 1), 1, none⟩ = some (.int .i64 0) := hQ.out.cell 1
      have qqf1 : wr.frozen? ⟨(w.heap.size + 1), 1, none⟩ = false := hQ.out.free 1
      have qqc2 : wr.cell? ⟨(w.heap.size + 1), 2, none⟩ = some (.slice none 0 0) := hQ.out.cell 2
      have qqf2 : wr.frozen? ⟨(w.heap.size + 1), 2, none⟩ = false := hQ.out.free 2
      go_wp2_with fail
      have QF : Hid (Blk (wr.setCell ⟨w.heap.size, 2, none⟩ (.slice p3 m c3)) (w.heap.size + 1) [.int .i64 0, .int .i64 0, .slice none 0 0] 30) := hQ.out.far _ _ (by omega)
      change bodyPost _ _ _ _ _ (World.setCells (wr.setCell ⟨w.heap.size, 2, none⟩ (.slice p3 m c3)) (w.heap.size + 1) 0 [.int .i64 q, .int .i64 t, .slice p3 m c3])
      have hr := run_loadVar_mid (P := Try.prog) (World.setCells (wr.setCell ⟨w.heap.size, 2, none⟩ (.slice p3 m c3)) (w.heap.size + 1) 0 [.int .i64 q, .int .i64 t, .slice p3 m c3]) (w.heap.size + 1) 0 30 [.int .i64 q, .int .i64 t, .slice p3 m c3] _ (World.rangeAt_setCells_same _ (w.heap.size + 1) 0 [.int .i64 q, .int .i64 t, .slice p3 m c3] (show World.there (wr.setCell ⟨w.heap.size, 2, none⟩ (.slice p3 m c3)) (w.heap.size + 1) 0 3 from QF.out.there)) Try.underlying30 rfl refq_info
      refine bodyPost_ret (v := .tuple #[.agg #[.int .i64 q, .int .i64 t, .slice p3 m c3], .int .i64 0]) ?_ rfl ⟨⟨p3, c3, rfl, (isi_scs (I3.out.kb (Kb.set _ _ _ _) (by omega)) (by omega) _ _).low (by omega)⟩, below_scs (hB.out.setCell (Nat.le_refl _) _) (by omega) _ _⟩
      exact results_pair Try.results13 _ _ _ _ _ _ rfl rfl hr
set_option maxHeartbeats 8000000 in
theorem rrem0e (q t x : Int) (p : Option Addr) (c : Nat) (M : List Int) (hM : M.length ≤ 100) (base : Nat) (hm : 0 < M.length) (hx : M[0] = x) (w : World) (hI : IsI w p M base)
    (HC : Hid (∀ W : World, Below w.heap.size w W → Calls Try.prog 24 #[.agg #[.int .i64 q, .int .i64 t, .slice p M.length c], .int .i64 x] W fun e w' => e = .returned (.bool true) ∧ Below W.heap.size W w')) :
    Calls Try.prog 13 #[.agg #[.int .i64 q, .int .i64 t, .slice p M.length c], .int .i64 x] w fun e w' => (∃ p' c', e = .returned (.tuple #[.agg #[.int .i64 q, .int .i64 0, .slice p' (wo M x).length c'], .int .i64 0]) ∧ IsI w' p' (wo M x) w.heap.size) ∧ Below w.heap.size w w' := by
  obtain ⟨g0, hg0, lg0, _⟩ : ∃ g0, p = some ⟨g0, 0, none⟩ ∧ g0 < w.heap.size ∧ True := by
    obtain ⟨g, e, _, l, _⟩ := hI 0 hm
    exact ⟨g, e, l, trivial⟩
  subst hg0
  have CE : Hid (∀ W : World, Below w.heap.size w W → ∀ k (hk : k < M.length), W.cell? ⟨g0, k, none⟩ = some (.int .i64 M[k])) := fun W hb k hk => by
    obtain ⟨g, e, _, l, cc⟩ := hI k hk
    cases e
    exact (World.cell?_of_block (hb.block g0 l)).trans cc
  obtain ⟨m0, hm0⟩ : ∃ m0, m0 = M[0] := ⟨_, rfl⟩
  have C0 : Hid (∀ W : World, Below w.heap.size w W → W.cell? ⟨g0, 0, none⟩ = some (.int .i64 m0)) := fun W hb => by rw [hm0]; exact CE.out W hb 0 hm
  rw [← hm0] at hx
  clear hm0
  have WN : Hid (∀ k (hk : k < M.length), wo (M.take (k + 1)) x = if M[k] = x then wo (M.take k) x else wo (M.take k) x ++ [M[k]]) := fun k hk => wo_next M x k hk
  have HAP : Hid (∀ (b : Nat) (v : Value) (k : Nat) (y : Int) (W : World), OwnI W b v (wo (M.take k) x) → b ≤ W.heap.size → ∃ v' W2, (Builtin.append_ #[28, 28] 28 #[v, .slice (some ⟨W.heap.size, 0, none⟩) 1 1]).run Try.prog (W.alloc (.cells #[.int .i64 y] 3)) = .ok v' W2 ∧ OwnI W2 b v' (wo (M.take k) x ++ [y]) ∧ (W.alloc (.cells #[.int .i64 y] 3)).grownBy W2 v.ownBlock) := fun b v k y W h hb => app_next b v (wo (M.take k) x) y (by have := wo_le (M.take k) x; have : (M.take k).length ≤ M.length := (by simp; omega); omega) W h hb
  have HEND : Hid (M.take M.length = M) := List.take_length
  clear hI
  obtain ⟨n, hn⟩ : ∃ n, n = M.length := ⟨_, rfl⟩
  have Hn : Hid (n = M.length) := hn
  rw [← hn] at hM hm HC ⊢
  clear hn
  obtain ⟨m, hmm⟩ : ∃ m, m = (wo M x).length := ⟨_, rfl⟩
  have Hm : Hid (m = (wo M x).length) := hmm
  rw [← hmm]
  clear hmm
  have P0 : Hid (Blk ((w.alloc (.cells #[.int .i64 q, .int .i64 t, .slice (some ⟨g0, 0, none⟩) n c] 30)).alloc (.cells #[.int .i64 0, .int .i64 0, .slice none 0 0] 30)) w.heap.size [.int .i64 q, .int .i64 t, .slice (some ⟨g0, 0, none⟩) n c] 30) := (Blk.made w _ _).below (Go.Joins.below_alloc1 _ _)
  have Q0 : Hid (Blk ((w.alloc (.cells #[.int .i64 q, .int .i64 t, .slice (some ⟨g0, 0, none⟩) n c] 30)).alloc (.cells #[.int .i64 0, .int .i64 0, .slice none 0 0] 30)) (w.heap.size + 1) [.int .i64 0, .int .i64 0, .slice none 0 0] 30) := by
    have := Blk.made (w.alloc (.cells #[.int .i64 q, .int .i64 t, .slice (some ⟨g0, 0, none⟩) n c] 30)) [.int .i64 0, .int .i64 0, .slice none 0 0] 30
    rw [World.size_alloc] at this; exact this
  have xe : (m0 == x) = true := by simp [hx]
  go_enter Try.func13, Try.ntmps13
  go_wp2_with fail
  refine (HC.out _ (Go.Joins.below_alloc2 _ _ _)).mono ?_
  rintro e u ⟨rfl, hb⟩
  have B1 : Hid (Below w.heap.size w u) := below_then (Go.Joins.below_alloc2 _ _ _) hb
  have P1 : Hid (Blk u w.heap.size [.int .i64 q, .int .i64 t, .slice (some ⟨g0, 0, none⟩) n c] 30) := P0.out.below hb
  have Q1 : Hid (Blk u (w.heap.size + 1) [.int .i64 0, .int .i64 0, .slice none 0 0] 30) := Q0.out.below hb
  clear hb P0 Q0
  have lp : w.heap.size < u.heap.size := blk_lt P1.out
  have lq : w.heap.size + 1 < u.heap.size := blk_lt Q1.out
  have lg : g0 < u.heap.size := Nat.lt_of_lt_of_le lg0 B1.out.size
  have ne0 : ¬ g0 = w.heap.size := by omega
  have nw : Hid (g0 ≠ w.heap.size) := by show _ ≠ _; omega
  have m0c := C0.out u B1.out
  have nn0 : decide ((0 : Int) < (n : Int)) = true := by simp; omega
  have nn1 : decide (0 < n) = true := by simp; omega
  have pc0 : u.cell? ⟨w.heap.size, 0, none⟩ = some (.int .i64 q) := P1.out.cell 0
  have pf0 : u.frozen? ⟨w.heap.size, 0, none⟩ = false := P1.out.free 0
  have pc1 : u.cell? ⟨w.heap.size, 1, none⟩ = some (.int .i64 t) := P1.out.cell 1
  have pf1 : u.frozen? ⟨w.heap.size, 1, none⟩ = false := P1.out.free 1
  have pc2 : u.cell? ⟨w.heap.size, 2, none⟩ = some (.slice (some ⟨g0, 0, none⟩) n c) := P1.out.cell 2
  have pf2 : u.frozen? ⟨w.heap.size, 2, none⟩ = false := P1.out.free 2
  have VP : Hid (Blk ((u.setCell ⟨w.heap.size, 1, none⟩ (.int .i64 0)).alloc (.cells #[] 3)) w.heap.size [.int .i64 q, .int .i64 0, .slice (some ⟨g0, 0, none⟩) n c] 30) := (P1.out.set 1 _).below (Go.Joins.below_alloc1 _ _)
  have VQ : Hid (Blk ((u.setCell ⟨w.heap.size, 1, none⟩ (.int .i64 0)).alloc (.cells #[] 3)) (w.heap.size + 1) [.int .i64 0, .int .i64 0, .slice none 0 0] 30) := (Q1.out.far 1 _ (by omega)).below (Go.Joins.below_alloc1 _ _)
  have VB : Hid (Below w.heap.size w ((u.setCell ⟨w.heap.size, 1, none⟩ (.int .i64 0)).alloc (.cells #[] 3))) := below_new (B1.out.setCell (Nat.le_refl _) _) _
  have VO : Hid (OwnI ((u.setCell ⟨w.heap.size, 1, none⟩ (.int .i64 0)).alloc (.cells #[] 3)) (w.heap.size + 2) (.slice (some ⟨u.heap.size, 0, none⟩) 0 0) (wo (M.take 0) x)) := by
    have := OwnI.made (u.setCell ⟨w.heap.size, 1, none⟩ (.int .i64 0)) (base := w.heap.size + 2) (by simp; omega)
    simp only [World.size_setCell] at this
    exact this
  have VS : Hid (w.heap.size + 2 ≤ ((u.setCell ⟨w.heap.size, 1, none⟩ (.int .i64 0)).alloc (.cells #[] 3)).heap.size) := by show _ ≤ _; simp; omega
  go_wp2_with fail
  go_loopw [6, 25] (fun v y W => ∃ k : Nat, k ≤ n ∧ y = .int .i64 k ∧ Hid (OwnI W (w.heap.size + 2) v (wo (M.take k) x)) ∧ Hid (Blk W w.heap.size [.int .i64 q, .int .i64 0, .slice (some ⟨g0, 0, none⟩) n c] 30) ∧ Hid (Blk W (w.heap.size + 1) [.int .i64 0, .int .i64 0, .slice none 0 0] 30) ∧ Hid (Below w.heap.size w W) ∧ Hid (w.heap.size + 2 ≤ W.heap.size)) (fun _ y _ => n - (intOf y).toNat)
  case atStart => exact ⟨0, by omega, rfl, VO, VP, VQ, VB, VS⟩
  case round =>
    obtain ⟨k, hk, rfl, hO, hP, hQ, hB, hS⟩ := hrel
    by_cases hlt : k < n
    · have hd : decide ((k : Int) < (n : Int)) = true := by simp; omega
      have hkM : k < M.length := by have := Hn.out; omega
      have wn := WN.out k hkM
      have ck := CE.out wr hB.out k hkM
      have lgw : g0 < wr.heap.size := Nat.lt_of_lt_of_le lg0 hB.out.size
      generalize M[k] = y at wn ck
      by_cases e : y = x
      · have e1 : (y == x) = true := by simp [e]
        have e2 : (y != x) = false := by simp [e]
        rw [if_pos e] at wn
        have OO : Hid (OwnI wr (w.heap.size + 2) u6 (wo (M.take (k + 1)) x)) := by show OwnI _ _ _ _; rw [wn]; exact hO.out
        clear wn
        subst e
        go_wp2_with fail
        go_roundw
        case rel => exact ⟨k + 1, by omega, by go_num, OO, hP, hQ, hB, hS⟩
        case measure => simp [intOf]; omega
      · have e1 : (y == x) = false := by simp [e]
        have e2 : (y != x) = true := by simp [e]
        rw [if_neg e] at wn
        obtain ⟨v', W2, r1, o2, g2⟩ := HAP.out (w.heap.size + 2) u6 k y wr hO.out hS.out
        have ow := hO.out.base
        have OO : Hid (OwnI W2 (w.heap.size + 2) v' (wo (M.take (k + 1)) x)) := by show OwnI _ _ _ _; rw [wn]; exact o2
        have PP : Hid (Blk W2 w.heap.size [.int .i64 q, .int .i64 0, .slice (some ⟨g0, 0, none⟩) n c] 30) := (g2.block w.heap.size (by rw [World.size_alloc]; have := blk_lt hP.out; omega) (fun e => by have := ow _ e.symm; omega)).trans (hP.out.below (Go.Joins.below_alloc1 _ _))
        have QQ : Hid (Blk W2 (w.heap.size + 1) [.int .i64 0, .int .i64 0, .slice none 0 0] 30) := (g2.block (w.heap.size + 1) (by rw [World.size_alloc]; have := blk_lt hQ.out; omega) (fun e => by have := ow _ e.symm; omega)).trans (hQ.out.below (Go.Joins.below_alloc1 _ _))
        have BB : Hid (Below w.heap.size w W2) := below_grown (below_new hB.out _) ow (by omega) g2
        have SS : Hid (w.heap.size + 2 ≤ W2.heap.size) := Nat.le_trans (Nat.le_trans hS.out (by rw [World.size_alloc]; exact Nat.le_succ _)) g2.size
        clear hO hQ hB hS o2 g2 ow wn hP
        go_wp2_with (at_builtin; refine wpList_app rfl _ _ 28 rfl u6 (.slice (some ⟨wr.heap.size, 0, none⟩) 1 1) rfl rfl v' W2 r1 ?_)
        try go_wp2_with fail
        go_roundw
        case rel => exact ⟨k + 1, by omega, by go_num, OO, PP, QQ, BB, SS⟩
        case measure => simp [intOf]; omega
    · obtain rfl : k = n := by omega
      have hd : decide ((k : Int) < (k : Int)) = false := by simp
      obtain ⟨p3, c3, hv3, i3⟩ := hO.out.read
      have te : M.take k = M := by rw [Hn.out]; exact List.take_length
      rw [te] at hv3 i3
      rw [← Hm.out] at hv3
      subst hv3
      have I3 : Hid (IsI wr p3 (wo M x) (w.heap.size + 2)) := i3
      clear i3 hO te
      have lp2 : w.heap.size < wr.heap.size := blk_lt hP.out
      have lq2 : w.heap.size + 1 < wr.heap.size := blk_lt hQ.out
      have ppc0 : wr.cell? ⟨w.heap.size, 0, none⟩ = some (.int .i64 q) := hP.out.cell 0
      have ppf0 : wr.frozen? ⟨w.heap.size, 0, none⟩ = false := hP.out.free 0
      have ppc1 : wr.cell? ⟨w.heap.size, 1, none⟩ = some (.int .i64 0) := hP.out.cell 1
      have ppf1 : wr.frozen? ⟨w.heap.size, 1, none⟩ = false := hP.out.free 1
      have ppc2 : wr.cell? ⟨w.heap.size, 2, none⟩ = some (.slice (some ⟨g0, 0, none⟩) k c) := hP.out.cell 2
      have ppf2 : wr.frozen? ⟨w.heap.size, 2, none⟩ = false := hP.out.free 2
      have qqc0 : wr.cell? ⟨(w.heap.size + 1), 0, none⟩ = some (.int .i64 0) := hQ.out.cell 0
      have qqf0 : wr.frozen? ⟨(w.heap.size + 1), 0, none⟩ = false := hQ.out.free 0
      have qqc1 : wr.cell? ⟨(w.heap.size + 1), 1, none⟩ = some (.int .i64 0) := hQ.out.cell 1
      have qqf1 : wr.frozen? ⟨(w.heap.size + 1), 1, none⟩ = false := hQ.out.free 1
      have qqc2 : wr.cell? ⟨(w.heap.size + 1), 2, none⟩ = some (.slice none 0 0) := hQ.out.cell 2
      have qqf2 : wr.frozen? ⟨(w.heap.size + 1), 2, none⟩ = false := hQ.out.free 2
      go_wp2_with fail
      have QF : Hid (Blk (wr.setCell ⟨w.heap.size, 2, none⟩ (.slice p3 m c3)) (w.heap.size + 1) [.int .i64 0, .int .i64 0, .slice none 0 0] 30) := hQ.out.far _ _ (by omega)
      change bodyPost _ _ _ _ _ (World.setCells (wr.setCell ⟨w.heap.size, 2, none⟩ (.slice p3 m c3)) (w.heap.size + 1) 0 [.int .i64 q, .int .i64 0, .slice p3 m c3])
      have hr := run_loadVar_mid (P := Try.prog) (World.setCells (wr.setCell ⟨w.heap.size, 2, none⟩ (.slice p3 m c3)) (w.heap.size + 1) 0 [.int .i64 q, .int .i64 0, .slice p3 m c3]) (w.heap.size + 1) 0 30 [.int .i64 q, .int .i64 0, .slice p3 m c3] _ (World.rangeAt_setCells_same _ (w.heap.size + 1) 0 [.int .i64 q, .int .i64 0, .slice p3 m c3] (show World.there (wr.setCell ⟨w.heap.size, 2, none⟩ (.slice p3 m c3)) (w.heap.size + 1) 0 3 from QF.out.there)) Try.underlying30 rfl refq_info
      refine bodyPost_ret (v := .tuple #[.agg #[.int .i64 q, .int .i64 0, .slice p3 m c3], .int .i64 0]) ?_ rfl ⟨⟨p3, c3, rfl, (isi_scs (I3.out.kb (Kb.set _ _ _ _) (by omega)) (by omega) _ _).low (by omega)⟩, below_scs (hB.out.setCell (Nat.le_refl _) _) (by omega) _ _⟩
      exact results_pair Try.results13 _ _ _ _ _ _ rfl rfl hr
/-- the document's Remove is the queue's -/
theorem rrem_any (S : Qu) (x : Int) (g : Good S) (p : Option Addr) (c : Nat) (base : Nat) (w : World) (hbs : base ≤ w.heap.size) (hI : IsI w p S.L base) :
    Calls Try.prog 13 #[.agg #[.int .i64 S.q, .int .i64 S.t, .slice p S.L.length c], .int .i64 x] w fun e w' => (∃ p' c', e = .returned (.tuple #[.agg #[.int .i64 (remS S x).q, .int .i64 (remS S x).t, .slice p' (remS S x).L.length c'], .int .i64 (remE S x)]) ∧ IsI w' p' (remS S x).L base) ∧ Below w.heap.size w w' := by
  have few := g.few
  have HC := fun (W : World) (hb : Below w.heap.size w W) => has_any S.q S.t x p c S.L base (by omega) W (hI.below hb)
  by_cases m : x ∈ S.L
  · rw [decide_eq_true m] at HC
    have hl := fst_lt.2 m
    have hm : 0 < S.L.length := by omega
    rw [remE, remS, if_pos m, if_pos m]
    simp only [erase_wo S.L x g.one m]
    by_cases e : S.L[0] = x
    · have f0 : fstAt S.L x = 0 := by
        by_cases z : fstAt S.L x = 0
        · exact z
        · obtain ⟨_, h⟩ := fst_no (L := S.L) (p := x) (j := 0) (by omega)
          exact absurd e h
      rw [if_pos f0]
      exact (rrem0e S.q S.t x p c S.L (by omega) base hm e w hI HC).mono (fun e w' h => ⟨by obtain ⟨p', c', e1, i1⟩ := h.1; exact ⟨p', c', e1, i1.low hbs⟩, h.2⟩)
    · have f0 : ¬ fstAt S.L x = 0 := fun z => e (by have := fst_yes hl; simp only [z] at this; exact this)
      rw [if_neg f0]
      exact (rrem0n S.q S.t x p c S.L (by omega) base hm e w hI HC).mono (fun e w' h => ⟨by obtain ⟨p', c', e1, i1⟩ := h.1; exact ⟨p', c', e1, i1.low hbs⟩, h.2⟩)
  · rw [decide_eq_false m] at HC
    rw [remE, remS, if_neg m, if_neg m]
    refine (rrem5 S.q S.t x p S.L.length c w HC).mono ?_
    rintro e w' ⟨rfl, hb⟩
    exact ⟨⟨p, c, rfl, hI.below hb⟩, hb⟩
end Go.Proofs.Ytcamghafjgjgdaa
