/- What DemesneGiven wants beside bootmap's, buddy's and quota's own: ranges as a list, the tree with one child, counting. -/
import Derived.Test.YtpfcpmhpekidkaaOH
import Derived.Test.YtpfcpmhpekidkaaBDL
import Derived.Test.YtpfcpmhpekidkaaQ7
namespace Go.Proofs.Ytpfcpmhpekidkaa.Gv
open Go.ChangeShapes Go.WideShapes Go.ChangeAt Go.RowKit Go.Maps
set_option linter.unusedSimpArgs false
set_option linter.unusedVariables false
set_option maxRecDepth 8000

/-! ### ranges -/
theorem fz_bounds {B : Nat → Int} {n : Nat} {F : Int} {k : Int × Int} {M : List (Int × Int)} (h : Bm.FZ B n F k 0 M) (hB : ∀ i, 0 ≤ B i ∧ B i < 256) : (∀ x, Bm.Has M x → 0 ≤ x ∧ x < F ∧ ¬ (k.1 ≤ x ∧ x < k.2)) ∧ Bm.Can M ∧ M ≠ [] := by
  rcases h with ⟨a, b, c⟩ | ⟨a, y, A, p, q, b, c⟩ | ⟨a, A, p, q, r, b⟩
  · cases b
  · exact absurd b.symm q
  · refine ⟨fun x hx => ?_, q, fun e => ?_⟩
    · obtain ⟨h1, h2⟩ := (r x).1 hx
      obtain ⟨u, hu, u1, u2⟩ := h1
      unfold Bm.useL at hu
      obtain ⟨y, hy, rfl⟩ := List.mem_map.1 hu
      obtain ⟨n1, n2, n3, n4⟩ := p.ok
      have wf := Bm.areas_wf hB (n / 20) y (by rw [← n4]; exact (List.mem_filter.1 hy).1)
      refine ⟨?_, ?_, fun hk => h2 ⟨k, List.mem_cons_self, hk⟩⟩
      · have := wf.1.1
        have u1' : (y.f + 4095) / 4096 ≤ x := u1
        omega
      · have u2' : x < min ((y.f + y.l) / 4096) F := u2
        omega
    · subst e; simp at b
/-- the i-th range of a list -/
def rg (M : List (Int × Int)) : Nat → Int × Int := fun i => M.getD i (0, 0)
theorem rg_at {M : List (Int × Int)} {i : Nat} (h : i < M.length) : rg M i = M[i] := by
  unfold rg; rw [List.getD_eq_getElem?_getD, List.getElem?_eq_getElem h]; rfl
theorem form_can {M : List (Int × Int)} {F : Int} (hc : Bm.Can M) (hb : ∀ x, Bm.Has M x → 0 ≤ x ∧ x < F) (hF : F ≤ 1048576) : Bd.Form (rg M) M.length := fun i hi => by
  rw [rg_at hi]
  have ne := hc.1 M[i] (List.getElem_mem hi)
  have b1 := hb M[i].1 ⟨M[i], List.getElem_mem hi, Int.le_refl _, ne⟩
  have b2 := hb (M[i].2 - 1) ⟨M[i], List.getElem_mem hi, by omega, by omega⟩
  refine ⟨?_, ne, by omega⟩
  cases i with
  | zero => exact b1.1
  | succ j =>
    show (rg M j).2 ≤ _
    rw [rg_at (by omega)]
    have := List.pairwise_iff_getElem.1 hc.2 j (j + 1) (by omega) hi (by omega)
    omega
theorem ru_has {M : List (Int × Int)} (x : Nat) : Bd.RU (rg M) M.length x ↔ Bm.Has M x := by
  constructor
  · rintro ⟨m, h1, h2, h3⟩
    rw [rg_at h1] at h2 h3
    exact ⟨M[m], List.getElem_mem h1, h2, h3⟩
  · rintro ⟨r, hr, h2, h3⟩
    obtain ⟨m, h1, rfl⟩ := List.getElem_of_mem hr
    exact ⟨m, h1, by rw [rg_at h1]; exact h2, by rw [rg_at h1]; exact h3⟩
theorem end_le {M : List (Int × Int)} {F : Int} (hc : Bm.Can M) (hb : ∀ x, Bm.Has M x → 0 ≤ x ∧ x < F) (h0 : M ≠ []) : (Bd.endAt (rg M) M.length).toNat ≤ F.toNat := by
  have hl : 0 < M.length := List.length_pos_iff.2 h0
  obtain ⟨n, hn⟩ : ∃ n, M.length = n + 1 := ⟨M.length - 1, by omega⟩
  rw [hn]
  show (rg M n).2.toNat ≤ _
  rw [rg_at (by omega)]
  have hi : n < M.length := by omega
  have ne := hc.1 M[n] (List.getElem_mem hi)
  have b2 := hb (M[n].2 - 1) ⟨M[n], List.getElem_mem hi, by omega, by omega⟩
  omega
/-- a list of ranges that begins its block is what buddy's New reads -/
theorem rgs_of {w : World} {v : Value} {M : List (Int × Int)} (H : Bm.RL w 0 v M) (hz : Bm.At0 v) (h0 : M ≠ []) : ∃ g c, v = .slice (some ⟨g, 0, none⟩) M.length c ∧ Bd.Rgs w g M.length (rg M) := by
  rcases H with ⟨_, h⟩ | ⟨g, o, c, hv, hc, _, lg, h⟩
  · exact absurd h h0
  · have o0 : o = 0 := hz _ _ _ hv _ rfl
    subst o0
    refine ⟨g, c, hv, lg, fun i hi => ?_⟩
    rw [rg_at hi]
    have h1 := h i hi 0 (by omega)
    have h2 := h i hi 1 (by omega)
    rw [Nat.zero_add] at h1 h2
    exact ⟨h1, h2⟩
theorem rgs_one (w : World) (f t : Int) : Bd.Rgs (w.alloc (.cells #[.int .i64 f, .int .i64 t] 30)) w.heap.size 1 (fun _ => (f, t)) := by
  have ow := Bm.own1 w (.cells #[.int .i64 f, .int .i64 t] 30)
  refine ⟨Bm.blk_lt ow, fun i hi => ?_⟩
  obtain rfl : i = 0 := by omega
  exact ⟨by rw [Go.Joins.cell_of_block ow]; rfl, by rw [Go.Joins.cell_of_block ow]; rfl⟩
theorem ru_one (f t : Nat) : Bd.RU (fun _ => ((f : Int), (t : Int))) 1 = fun i => f ≤ i ∧ i < t := by
  funext i; apply propext
  constructor
  · rintro ⟨m, _, h1, h2⟩
    simp only at h1 h2
    exact ⟨by omega, by omega⟩
  · rintro ⟨h1, h2⟩
    exact ⟨0, by omega, by simp only; omega, by simp only; omega⟩
theorem form_one {f t : Nat} (h : f < t) (h2 : t ≤ 1048576) : Bd.Form (fun _ => ((f : Int), (t : Int))) 1 := fun i hi => by
  obtain rfl : i = 0 := by omega
  exact ⟨by show (0 : Int) ≤ _; simp only; omega, by simp only; omega, by simp only; omega⟩
theorem cnt_one : Bd.cnt (Bd.RU (fun _ => ((1 : Int), (8 : Int))) 1) 1048576 = 7 := by
  have := ru_one 1 8
  rw [show (fun _ : Nat => (((1 : Nat) : Int), ((8 : Nat) : Int))) = (fun _ => ((1 : Int), (8 : Int))) from rfl] at this
  rw [this, Bd.cnt_seg 1 8 (by omega)]
  rfl
/-- buddy.New of [1, 8) and its Free -/
theorem new_one (g : Nat) (w : World) (H : Bd.Rgs w g 1 (fun _ => ((1 : Int), (8 : Int)))) : Calls Try.prog 10 #[.slice (some ⟨g, 0, none⟩) 1 1] w fun e w' => ∃ b, e = .returned (.tuple #[.pointer (some ⟨b, 0, none⟩), .int .i64 0]) ∧ (Calls Try.prog 11 #[.pointer (some ⟨b, 0, none⟩)] w' fun e w'' => e = .returned (.int .i64 7) ∧ w'' = w') ∧ Below w.heap.size w w' := by
  refine (Bd.new_ok g 1 1 (by omega) _ w H (form_one (f := 1) (t := 8) (by omega) (by omega))).mono ?_
  rintro e w' ⟨b, he, hB, hb⟩
  have r := hB.free
  rw [cnt_one] at r
  exact ⟨b, he, r, hb⟩
/-! ### counting -/
theorem cnt_mono {F G : Nat → Prop} (h : ∀ i, F i → G i) (n : Nat) : Bd.cnt F n ≤ Bd.cnt G n := by
  have := Bd.cnt_sub G F h n
  omega
theorem cnt_bound {F : Nat → Prop} {b : Nat} (h : ∀ i, F i → i < b) (n : Nat) : Bd.cnt F n ≤ b := by
  have := cnt_mono (G := fun i => 0 ≤ i ∧ i < b) (fun i hi => ⟨Nat.zero_le _, h i hi⟩) n
  rw [Bd.cnt_seg 0 b (Nat.zero_le _)] at this
  omega
theorem cnt_empty {F : Nat → Prop} (h : ∀ i, ¬ F i) (n : Nat) : Bd.cnt F n = 0 := by
  have := cnt_bound (F := F) (b := 0) (fun i hi => absurd hi (h i)) n
  omega
theorem cn_some {F : Nat → Prop} {i : Nat} (h : F i) : ∃ k q, k ≤ 10 ∧ Bd.cnN F k q := by
  obtain ⟨o, q, _, h2, h3, _⟩ := Bd.cn_max F 10 0 i rfl (fun j e => by simp at e; rw [e]; exact h)
  exact ⟨o, q, h2, h3⟩
theorem cnt_some {F : Nat → Prop} {n : Nat} (h : Bd.cnt F n ≠ 0) : ∃ i, F i := by
  apply Classical.byContradiction
  intro c
  exact h (cnt_empty (fun i hi => c ⟨i, hi⟩) n)
theorem asc_nd {K : List Int} (k : Bd.Asc K) : Bd.Nd K := fun i j x ij e1 e2 => by
  have h : ∀ i j x, i < j → K[i]? = some x → K[j]? = some x → False := fun i j x l e1 e2 => by
    obtain ⟨h1, g1⟩ := List.getElem?_eq_some_iff.1 e1
    obtain ⟨h2, g2⟩ := List.getElem?_eq_some_iff.1 e2
    have := List.pairwise_iff_getElem.1 k i j h1 h2 l
    rw [g1, g2] at this
    omega
  rcases Nat.lt_or_gt_of_ne ij with c | c
  · exact h i j x c e1 e2
  · exact h j i x c e2 e1
/-- as many keys as frames -/
theorem cnt_keys {F : Nat → Prop} {L : List Int} (hB : Bd.Bnd F) (a : Bd.Asc L) (h : ∀ x : Int, x ∈ L ↔ ∃ j : Nat, x = (j : Int) ∧ F j) : L.length = Bd.cnt F 1048576 := by
  have e := Bd.cnt_list 0 1048576 L (asc_nd a) (fun x hx => by
    obtain ⟨j, rfl, hj⟩ := (h x).1 hx
    exact ⟨j, by simp, by have := hB j hj; simp; omega⟩)
  have e2 : Bd.inL 0 L = F := by
    funext i; apply propext
    constructor
    · rintro ⟨x, hx, q, hq, hi⟩
      obtain ⟨j, e, hj⟩ := (h x).1 hx
      simp at hq hi
      have : j = i := by omega
      rw [← this]; exact hj
    · intro hi
      exact ⟨i, (h i).2 ⟨i, rfl, hi⟩, i, by simp, by simp⟩
  rw [e2] at e
  simp at e
  exact e.symm
/-! ### a tree with a root and perhaps one child -/
def tT (C lt n0 n1 : Int) (ok : Bool) : Nat → Qu.Nd := fun k => if k = 0 then ⟨-1, C, n0, lt, true⟩ else if k = 1 ∧ ok = true then ⟨0, lt, n1, 0, true⟩ else Qu.Nd.zero
theorem tT0 (C lt n0 n1 : Int) (ok : Bool) : tT C lt n0 n1 ok 0 = ⟨-1, C, n0, lt, true⟩ := if_pos rfl
theorem tT1 (C lt n0 n1 : Int) : tT C lt n0 n1 true 1 = ⟨0, lt, n1, 0, true⟩ := by
  unfold tT; rw [if_neg (by omega), if_pos ⟨rfl, rfl⟩]
theorem tT_ok {C lt n0 n1 : Int} {ok : Bool} (h0 : 0 ≤ C) (h1 : C ≤ 1048576) (h2 : 0 ≤ lt) (h3 : lt ≤ 1048576) (h4 : 0 ≤ n0) (h5 : n0 ≤ 1048576) (h6 : 0 ≤ n1) (h7 : n1 ≤ 1048576) : Qu.OkT (tT C lt n0 n1 ok) := fun k hk => by
  unfold tT
  by_cases a : k = 0
  · rw [if_pos a]; exact ⟨h0, h1, h4, h5, h2, h3⟩
  · rw [if_neg a]
    by_cases b : k = 1 ∧ ok = true
    · rw [if_pos b]; exact ⟨h2, h3, h6, h7, by simp, by simp⟩
    · rw [if_neg b]; exact Qu.zero_ok
theorem root_is (C : Int) : Qu.rootT C = tT C 0 0 0 false := by
  funext k
  unfold tT Qu.rootT
  by_cases a : k = 0
  · subst a; rw [Qu.put_same, if_pos rfl]
  · rw [Qu.put_other _ _ _ _ a, if_neg a, if_neg (by simp)]; rfl
theorem getN_nat (T : Nat → Qu.Nd) (k : Nat) (hk : k < 64) : Qu.getN T k = T k := by
  unfold Qu.getN; rw [if_pos ⟨by omega, by omega⟩, Int.toNat_natCast]
theorem getN0 (T : Nat → Qu.Nd) : Qu.getN T 0 = T 0 := getN_nat T 0 (by omega)
theorem getN1 (T : Nat → Qu.Nd) : Qu.getN T 1 = T 1 := getN_nat T 1 (by omega)
theorem may0 (C lt n0 n1 : Int) (ok : Bool) (n : Int) (hn : 0 ≤ n) : Qu.mayN (tT C lt n0 n1 ok) 0 n = if C - n0 - lt < n then 8 else 0 := by
  unfold Qu.mayN
  rw [getN0, tT0, if_neg (by simp), if_neg (by omega)]
  rfl
theorem may1 (C lt n0 n1 : Int) (n : Int) (hn : 0 ≤ n) : Qu.mayN (tT C lt n0 n1 true) 1 n = if lt - n1 < n then 8 else 0 := by
  unfold Qu.mayN
  rw [getN1, tT1, if_neg (by simp), if_neg (by omega)]
  show (if lt - n1 - 0 < n then (8 : Int) else 0) = _
  rw [Int.sub_zero]
theorem charge0 {C lt n0 n1 : Int} {ok : Bool} (h : ¬ C - n0 - lt < 1) : Qu.chargeT (tT C lt n0 n1 ok) 0 1 = tT C lt (n0 + 1) n1 ok := by
  unfold Qu.chargeT
  rw [may0 _ _ _ _ _ _ (by omega), if_neg h, if_pos rfl]
  funext k
  by_cases a : k = 0
  · subst a
    show Qu.putT _ 0 _ 0 = _
    rw [Qu.put_same, tT0]
    show Qu.Nd.plus (tT C lt n0 n1 ok 0) 1 = _
    rw [tT0]; rfl
  · show Qu.putT _ 0 _ k = _
    rw [Qu.put_other _ _ _ _ a]
    unfold tT
    rw [if_neg a, if_neg a]
theorem charge0_no {C lt n0 n1 : Int} {ok : Bool} (h : C - n0 - lt < 1) : Qu.chargeT (tT C lt n0 n1 ok) 0 1 = tT C lt n0 n1 ok := by
  unfold Qu.chargeT
  rw [may0 _ _ _ _ _ _ (by omega), if_pos h, if_neg (by decide)]
theorem charge1 {C lt n0 n1 : Int} (h : ¬ lt - n1 < 1) : Qu.chargeT (tT C lt n0 n1 true) 1 1 = tT C lt n0 (n1 + 1) true := by
  unfold Qu.chargeT
  rw [may1 _ _ _ _ _ (by omega), if_neg h, if_pos rfl]
  funext k
  by_cases a : k = 1
  · subst a
    show Qu.putT _ 1 _ 1 = _
    rw [Qu.put_same, tT1]
    show Qu.Nd.plus (tT C lt n0 n1 true 1) 1 = _
    rw [tT1]; rfl
  · show Qu.putT _ 1 _ k = _
    rw [Qu.put_other _ _ _ _ a]
    unfold tT
    by_cases b : k = 0
    · rw [if_pos b, if_pos b]
    · rw [if_neg b, if_neg b, if_neg (fun q => a q.1), if_neg (fun q => a q.1)]
theorem charge1_no {C lt n0 n1 : Int} (h : lt - n1 < 1) : Qu.chargeT (tT C lt n0 n1 true) 1 1 = tT C lt n0 n1 true := by
  unfold Qu.chargeT
  rw [may1 _ _ _ _ _ (by omega), if_pos h, if_neg (by decide)]
theorem free_one (C : Int) : Qu.freeN (tT C 0 0 0 false) = 1 := by
  rcases Qu.idx_is (tT C 0 0 0 false) (fun l => !l.live) with ⟨r, hr6, hr, hrf, hm⟩ | ⟨_, h⟩
  · have r0 : r ≠ 0 := fun e => by subst e; rw [tT0] at hrf; simp at hrf
    have r1 : ¬ 1 < r := fun e => by
      have := hm 1 e
      unfold tT at this
      rw [if_neg (by omega), if_neg (by simp)] at this
      simp [Qu.Nd.zero] at this
    show Qu.idxN _ _ = _
    rw [hr]
    omega
  · have := h 1 (by omega)
    unfold tT at this
    rw [if_neg (by omega), if_neg (by simp)] at this
    simp [Qu.Nd.zero] at this
theorem child_yes {C lt : Int} (h0 : 0 ≤ lt) (h1 : lt ≤ C) : Qu.childN (tT C 0 0 0 false) 0 lt = 0 ∧ Qu.childI (tT C 0 0 0 false) 0 lt = 1 ∧ Qu.childT (tT C 0 0 0 false) 0 lt = tT C lt 0 0 true := by
  have hm : Qu.mayN (tT C 0 0 0 false) 0 lt = 0 := by rw [may0 _ _ _ _ _ _ h0, if_neg (by omega)]
  have hc : Qu.childN (tT C 0 0 0 false) 0 lt = 0 := by
    unfold Qu.childN; rw [if_pos hm, free_one, if_neg (by omega)]
  refine ⟨hc, by unfold Qu.childI; rw [if_pos hc, free_one], ?_⟩
  unfold Qu.childT
  rw [if_pos hc, free_one]
  funext k
  by_cases a : k = 0
  · subst a
    show Qu.putT _ 0 _ 0 = _
    rw [Qu.put_same, tT0]
    show Qu.Nd.lend (tT C 0 0 0 false 0) lt = _
    rw [tT0]
    show Qu.Nd.mk (-1) C 0 (0 + lt) true = _
    rw [Int.zero_add]
  · show Qu.putT _ 0 _ k = _
    rw [Qu.put_other _ _ _ _ a]
    show Qu.putT _ 1 _ k = _
    by_cases b : k = 1
    · subst b; rw [Qu.put_same, tT1]; rfl
    · rw [Qu.put_other _ _ _ _ b]
      unfold tT
      rw [if_neg a, if_neg a, if_neg (by simp), if_neg (fun q => b q.1)]
theorem child_no {C lt : Int} (h : lt < 0 ∨ C < lt) : Qu.childN (tT C 0 0 0 false) 0 lt ≠ 0 ∧ Qu.childT (tT C 0 0 0 false) 0 lt = tT C 0 0 0 false := by
  have hc : Qu.childN (tT C 0 0 0 false) 0 lt ≠ 0 := by
    unfold Qu.childN
    have hm : Qu.mayN (tT C 0 0 0 false) 0 lt ≠ 0 := by
      unfold Qu.mayN
      rw [getN0, tT0, if_neg (by simp)]
      by_cases a : lt < 0
      · rw [if_pos a]; decide
      · rw [if_neg a, if_pos (by show C - 0 - 0 < lt; omega)]; decide
    rw [if_neg hm]; exact hm
  exact ⟨hc, by unfold Qu.childT; rw [if_neg hc]⟩
theorem tree_block {w w' : World} {b : Nat} {T : Nat → Qu.Nd} (h : Qu.IsTree w b T) (hs : w.heap.size ≤ w'.heap.size) (e : w'.heap[b]? = w.heap[b]?) : Qu.IsTree w' b T := by
  obtain ⟨h1, h2, h3⟩ := h
  refine ⟨fun i hi j v hv => ?_, fun j hj => ?_, Nat.lt_of_lt_of_le h3 hs⟩
  · rw [World.cell?_of_block (w := w) (a := ⟨b, i * 5 + j, none⟩) e]; exact h1 i hi j v hv
  · rw [World.cell?_of_block (w := w) (a := ⟨b, 0 + j, none⟩) e, World.frozen?_of_block (w := w) (a := ⟨b, 0 + j, none⟩) e]; exact h2 j hj
end Go.Proofs.Ytpfcpmhpekidkaa.Gv
