/- Regions: the document's Change. -/
import Derived.Test.YtngaodfajihmmaaG19
namespace Go.Proofs.Ytngaodfajihmmaa
open Go.ChangeShapes Go.WideShapes Go.ChangeAt Go.RowKit Go.Maps
set_option linter.unusedSimpArgs false
set_option linter.unusedVariables false

theorem OwnR.setTo {w : World} {base g cap : Nat} {L : List Rg} (h : OwnR w base (.slice (some ⟨g, 0, none⟩) L.length cap) L) (i : Nat) (hi : i < L.length) (t : Int) : OwnR (w.setCell ⟨g, i * 6 + 1, none⟩ (.int .i64 t)) base (.slice (some ⟨g, 0, none⟩) L.length cap) (L.set i ((L.getD i Rg.zero).upto t)) := by
  have := (World.ownsRow.stored h (i * 6 + 1) (.int .i64 t)).1
  unfold OwnR
  rw [flat_set L i t hi] at this
  rw [List.length_set]; exact this
theorem OwnR.cell {w : World} {base g cap : Nat} {L : List Rg} (h : OwnR w base (.slice (some ⟨g, 0, none⟩) L.length cap) L) (i : Nat) (hi : i < L.length) (j : Nat) (x : Value) (hj : j < 6) (hx : (L.getD i Rg.zero).enc[j]? = some x) : w.cell? ⟨g, i * 6 + j, none⟩ = some x := by
  rw [World.ownsRow.cellAt h (i * 6 + j) (by omega), flatR_enc L i j hi hj, hx]
theorem pcs_snoc (D : Int → Option Att) (a b : Int) : ∀ l : List Int, pcs D (l ++ [a] ++ [b]) = pcs D (l ++ [a]) ++ (match D a with | some v => [Rg.of a b v] | none => [])
  | [] => by
    show pcs D [a, b] = pcs D [a] ++ _
    rw [show pcs D [a, b] = (match D a with | some v => [Rg.of a b v] | none => []) ++ pcs D [b] from rfl]
    rw [show pcs D [b] = [] from rfl, show pcs D [a] = [] from rfl, List.append_nil, List.nil_append]
  | [x] => by
    show pcs D (x :: a :: [b]) = pcs D (x :: a :: []) ++ _
    rw [show pcs D (x :: a :: [b]) = (match D x with | some v => [Rg.of x a v] | none => []) ++ pcs D [a, b] from rfl, show pcs D (x :: a :: []) = (match D x with | some v => [Rg.of x a v] | none => []) ++ pcs D [a] from rfl]
    have := pcs_snoc D a b []
    simp only [List.nil_append] at this
    rw [show ([a] ++ [b] : List Int) = [a, b] from rfl] at this
    rw [this, List.append_assoc]
  | x :: y :: l => by
    have ih := pcs_snoc D a b (y :: l)
    show pcs D (x :: y :: (l ++ [a] ++ [b])) = pcs D (x :: y :: (l ++ [a])) ++ _
    rw [show pcs D (x :: y :: (l ++ [a] ++ [b])) = (match D x with | some v => [Rg.of x y v] | none => []) ++ pcs D (y :: l ++ [a] ++ [b]) from rfl, show pcs D (x :: y :: (l ++ [a])) = (match D x with | some v => [Rg.of x y v] | none => []) ++ pcs D (y :: l ++ [a]) from rfl, ih, List.append_assoc]
/-- what is there behind so many ends -/
def outK (D : Int → Option Att) (E : List Int) (i : Nat) : List Rg := preL [] (pcs D (E.take (i + 1)))
theorem outK_next (D : Int → Option Att) (E : List Int) (i : Nat) (h : i + 1 < E.length) : outK D E (i + 1) = match D (E.getD i 0) with | some v => withL (outK D E i) (Rg.of (E.getD i 0) (E.getD (i + 1) 0) v) | none => outK D E i := by
  unfold outK
  rw [takeI E (i + 1) h, takeI E i (by omega), pcs_snoc]
  cases D (E.getD i 0) with
  | none => simp
  | some v =>
    simp only
    unfold preL
    rw [List.foldl_append]; rfl
theorem outK_zero (D : Int → Option Att) (E : List Int) (h : 0 < E.length) : outK D E 0 = [] := by
  cases E with
  | nil => simp at h
  | cons a l => rfl
theorem outK_end (D : Int → Option Att) (E : List Int) (i : Nat) (h : E.length = i + 1) : outK D E i = preL [] (pcs D E) := by
  unfold outK; rw [← h, List.take_length]
theorem outK_len (D : Int → Option Att) (E : List Int) : ∀ i, i < E.length → (outK D E i).length ≤ i
  | 0, h => by rw [outK_zero D E h]; simp
  | i + 1, h => by
    have ih := outK_len D E i (by omega)
    rw [outK_next D E i h]
    split
    · rename_i v _
      have := withL_len (outK D E i) (Rg.of (E.getD i 0) (E.getD (i + 1) 0) v)
      omega
    · omega
theorem inc_lt {E : List Int} (h : Inc E) (i : Nat) (hi : i + 1 < E.length) : E.getD i 0 < E.getD (i + 1) 0 := by
  have := List.pairwise_iff_getElem.1 h i (i + 1) (by omega) hi (by omega)
  simpa [List.getD, List.getElem?_eq_getElem (show i < E.length by omega), List.getElem?_eq_getElem hi] using this
/-- the change by its number -/
def hhF (how : Int) (x : Rg) : Option Att → Option Att := if how = 1 then fun _ => some x.att else if how = 2 then fun _ => none else fun o => o.bind (fun v => some (x.w, x.u, x.x, v.2.2.2))
theorem OwnR.lt {w : World} {base : Nat} {v : Value} {L : List Rg} (h : OwnR w base v L) : ∀ j, v.ownBlock = some j → j < w.heap.size := by
  obtain ⟨h1, h2 | ⟨g, cap, cur, e1, e2, e3, _⟩⟩ := h
  · intro j hj; rw [h2.1] at hj; cases hj
  · intro j hj; rw [e1] at hj; cases hj; exact (Array.getElem?_eq_some_iff.1 e3).1
theorem ends_len (L : List Rg) (f t : Int) : (endsL L f t).length ≤ 2 + L.length * 2 := by
  have := insAll_len (allE L f t) []
  rw [allE_len] at this
  unfold endsL
  simpa using this
theorem ends_ne (L : List Rg) (f t : Int) : 0 < (endsL L f t).length := by
  have : f ∈ endsL L f t := (ends_mem L f t f).2 (Or.inl rfl)
  exact List.length_pos_of_mem this
theorem OwnR.free {w : World} {base g cap n : Nat} {L : List Rg} (h : OwnR w base (.slice (some ⟨g, 0, none⟩) n cap) L) (o : Nat) : w.frozen? ⟨g, o, none⟩ = false := by
  obtain ⟨h1, h2 | ⟨g', cap', cur, e1, e2, e3, _⟩⟩ := h
  · cases h2.1
  · cases e1; exact Go.Joins.unfrozen_of_block e3 o
theorem with_app {OUT : List Rg} {r : Rg} (h : r.fr < r.to) (hj : (decide (0 < OUT.length) && Rg.joins (lastR OUT) r) = false) : withL OUT r = OUT ++ [r] := by
  unfold withL
  rw [if_neg (by omega), if_neg]
  intro q
  rw [decide_eq_true q.1, q.2] at hj
  cases hj
theorem with_set {OUT : List Rg} {r : Rg} (h : r.fr < r.to) (hj : (decide (0 < OUT.length) && Rg.joins (lastR OUT) r) = true) : withL OUT r = OUT.set (OUT.length - 1) ((lastR OUT).upto r.to) := by
  unfold withL
  simp only [Bool.and_eq_true, decide_eq_true_eq] at hj
  rw [if_neg (by omega), if_pos hj]
set_option maxRecDepth 8000 in
set_option maxHeartbeats 8000000 in
theorem change_any (base : Nat) (p : Option Addr) (c : Nat) (L : List Rg) (hL : L.length ≤ 100) (f t how : Int) (hw3 : how = 1 ∨ how = 2 ∨ how = 3) (x : Rg) (w : World) (h : IsL w base p L) :
    Calls Try.prog 18 #[.slice p L.length c, .int .i64 f, .int .i64 t, .int .i64 how, x.val] w fun e w' => ∃ p' c', e = .returned (.slice p' (changeV L f t (hhF how x)).length c') ∧ IsL w' w.heap.size p' (changeV L f t (hhF how x)) ∧ Below w.heap.size w w' := by
  obtain ⟨i0, hi, hz0, hz1, hz2⟩ := info5 rr_info5
  have HI : Hid (IsL w base p L) := h
  have EC : Hid (∀ W : World, IsL W base p L → Calls Try.prog 33 #[.slice p L.length c, .int .i64 f, .int .i64 t] W fun e w' => ∃ p' c', e = .returned (.slice p' (endsL L f t).length c') ∧ IsI w' W.heap.size p' (endsL L f t) ∧ Below W.heap.size W w') := fun W h => ends_any base p c L hL f t W h
  have FC : Hid (∀ (a : Int) (W : World), IsL W base p L → Calls Try.prog 20 #[.slice p L.length c, .int .i64 a] W fun e w' => e = .returned (.tuple #[(findR L a).1.val, .bool (findR L a).2]) ∧ Below W.heap.size W w') := fun a W h => findr_any base p c L hL a W h
  have FA : Hid (∀ a, atR L a = if (findR L a).2 = true then some (findR L a).1.att else none) := fun a => find_at a L
  have DD : Hid (∀ a, chD L f t (hhF how x) a = if f ≤ a ∧ a < t then hhF how x (atR L a) else atR L a) := fun a => rfl
  obtain ⟨RES, hRES⟩ : ∃ R, changeV L f t (hhF how x) = R := ⟨_, rfl⟩
  have HRES : Hid (preL [] (pcs (chD L f t (hhF how x)) (endsL L f t)) = RES) := hRES
  rw [hRES]
  have EI : Hid (Inc (endsL L f t)) := ends_inc L f t
  have EL : Hid ((endsL L f t).length ≤ 202 ∧ 0 < (endsL L f t).length) := ⟨by have := ends_len L f t; omega, ends_ne L f t⟩
  clear h hRES
  generalize endsL L f t = E at EC HRES EI EL
  generalize hDg : chD L f t (hhF how x) = D at HRES DD
  clear hDg
  obtain ⟨nL, hnL⟩ : ∃ n, L.length = n := ⟨_, rfl⟩
  rw [hnL] at hL EC FC ⊢
  clear hnL
  obtain ⟨nE, hnE⟩ : ∃ n, E.length = n := ⟨_, rfl⟩
  have HNE : Hid (E.length = nE) := hnE
  rw [hnE] at EC EL
  obtain ⟨le1, le2⟩ := EL.out
  clear hnE EL
  obtain ⟨x1, x2, x3, x4, x5, x6⟩ := x
  go_enter Try.func18, Try.ntmps18
  go_wp2_with fail
  refine (EC.out _ (HI.out.below (Go.Joins.below_alloc2 _ _ _))).mono ?_
  rintro e u1 ⟨p12, c12, rfl, i12, hb1⟩
  have OO : Hid (OwnR u1 (w.heap.size + 1) (.slice (some ⟨w.heap.size + 1, 0, none⟩) 0 0) []) := own_keep (by have := startr (w.alloc (.cells #[.int .i64 x1, .int .i64 x2, .bool x3, .bool x4, .bool x5, .int .i64 x6] 31)); rw [World.size_alloc] at this; exact this) hb1
  have BB : Hid (Below w.heap.size w u1) := below_then (Go.Joins.below_alloc2 _ _ _) hb1
  have XX : Hid (u1.heap[w.heap.size]? = some (.cells #[.int .i64 x1, .int .i64 x2, .bool x3, .bool x4, .bool x5, .int .i64 x6] 31 (0, 0))) := (hb1.block _ (by rw [World.size_alloc, World.size_alloc]; omega)).trans (((Go.Joins.below_alloc1 _ _).block _ (by rw [World.size_alloc]; omega)).trans (own1 w _))
  obtain ⟨ge, hge, gl1, gl2, _⟩ := i12 0 (by rw [HNE.out]; exact le2)
  have GE : Hid (∀ i, i < nE → u1.cell? ⟨ge, i, none⟩ = some (.int .i64 (E.getD i 0))) := fun i hi => by
    obtain ⟨g', hg', _, _, c'⟩ := i12 i (by rw [HNE.out]; exact hi)
    rw [hge] at hg'; cases hg'; exact c'
  have GN : Hid (w.heap.size + 1 < ge) := by show _ < _; rw [World.size_alloc, World.size_alloc] at gl1; omega
  have GL : Hid (ge < u1.heap.size) := gl2
  subst hge
  clear i12 hb1 gl1 gl2 EC
  go_wp2_with fail
  go_loopw [11, 13] (fun v y W => ∃ (i : Nat), i + 1 ≤ nE ∧ y = .int .i64 i ∧ Hid (OwnR W (w.heap.size + 1) v (outK D E i)) ∧ Hid (Below w.heap.size w W) ∧ Hid (W.heap[w.heap.size]? = some (.cells #[.int .i64 x1, .int .i64 x2, .bool x3, .bool x4, .bool x5, .int .i64 x6] 31 (0, 0))) ∧ Hid (W.heap[ge]? = u1.heap[ge]? ∧ ge < W.heap.size) ∧ Hid (∀ j, Value.ownBlock v = some j → j ≠ ge)) (fun _ y _ => nE - (intOf y).toNat)
  case atStart => exact ⟨0, by omega, rfl, (by show OwnR _ _ _ _; rw [outK_zero D E (by rw [HNE.out]; exact le2)]; exact OO.out), BB, XX, ⟨rfl, GL.out⟩, (fun j ej => by cases ej; show w.heap.size + 1 ≠ ge; have := GN.out; omega)⟩
  case round =>
    obtain ⟨i, hi', rfl, O, Bl, X, G, NB⟩ := hrel
    have LO : Hid ((outK D E i).length ≤ 202) := by show _ ≤ _; have := outK_len D E i (by rw [HNE.out]; omega); omega
    obtain ⟨p11, c11, hv11, _, _⟩ := ownr_read O.out
    subst hv11
    by_cases hlt : i + 1 < nE
    · have hd : decide ((i : Int) + 1 < (nE : Int)) = true := by simp; omega
      have ib : (i : Int) ≤ 202 := by omega
      have i1 : (0 : Int) ≤ (i : Int) := by omega
      have i2 : (i : Int) < (nE : Int) := by omega
      have i3 : (i : Int) + 1 < (nE : Int) := by omega
      have NX : Hid (outK D E (i + 1) = match D (E.getD i 0) with | some v => withL (outK D E i) (Rg.of (E.getD i 0) (E.getD (i + 1) 0) v) | none => outK D E i) := outK_next D E i (by rw [HNE.out]; exact hlt)
      have AB : Hid (E.getD i 0 < E.getD (i + 1) 0) := inc_lt EI.out i (by rw [HNE.out]; exact hlt)
      have ga : wr.cell? ⟨ge, i, none⟩ = some (.int .i64 (E.getD i 0)) := (World.cell?_of_block (w := u1) (a := ⟨ge, i, none⟩) G.out.1).trans (GE.out i (by omega))
      have gb : wr.cell? ⟨ge, i + 1, none⟩ = some (.int .i64 (E.getD (i + 1) 0)) := (World.cell?_of_block (w := u1) (a := ⟨ge, i + 1, none⟩) G.out.1).trans (GE.out (i + 1) hlt)
      have lg : ge < wr.heap.size := G.out.2
      generalize E.getD i 0 = a at NX AB ga
      generalize E.getD (i + 1) 0 = b at NX AB gb
      have FCa : Hid _ := FC.out a
      have FAa : Hid _ := FA.out a
      have DDa : Hid _ := DD.out a
      obtain ⟨⟨⟨f1, f2, f3, f4, f5, f6⟩, ok⟩, hff⟩ : ∃ ff, findR L a = ff := ⟨_, rfl⟩
      rw [hff] at FCa FAa
      simp only at FCa FAa
      clear hff
      generalize atR L a = at0 at FAa DDa
      generalize D a = da at NX DDa
      generalize outK D E i = OUT at O LO NX NB
      obtain ⟨nO, hnO⟩ : ∃ n, OUT.length = n := ⟨_, rfl⟩
      have HNO : Hid (OUT.length = nO) := hnO
      have lO : nO ≤ 202 := by rw [← hnO]; exact LO.out
      rw [hnO]
      clear hnO
      go_wp2_with fail
      refine (FCa.out _ (HI.out.below Bl.out)).mono ?_
      rintro e u2 ⟨rfl, hb2⟩
      have O2 : Hid (OwnR u2 (w.heap.size + 1) (.slice p11 OUT.length c11) OUT) := own_keep O.out hb2
      have B2 : Hid (Below w.heap.size w u2) := below_then Bl.out hb2
      have X2 : Hid (u2.heap[w.heap.size]? = some (.cells #[.int .i64 x1, .int .i64 x2, .bool x3, .bool x4, .bool x5, .int .i64 x6] 31 (0, 0))) := (hb2.block _ (blk_lt X.out)).trans X.out
      have G2 : Hid (u2.heap[ge]? = u1.heap[ge]? ∧ ge < u2.heap.size) := ⟨(hb2.block _ G.out.2).trans G.out.1, Nat.lt_of_lt_of_le G.out.2 hb2.size⟩
      have ga2 : u2.cell? ⟨ge, i, none⟩ = some (.int .i64 a) := (hb2.cell (p := ⟨ge, i, none⟩) lg).trans ga
      have gb2 : u2.cell? ⟨ge, i + 1, none⟩ = some (.int .i64 b) := (hb2.cell (p := ⟨ge, i + 1, none⟩) lg).trans gb
      have lg2 : ge < u2.heap.size := G2.out.2
      clear hb2 O Bl X G ga gb lg
      have xx0 : u2.cell? ⟨w.heap.size, 0, none⟩ = some (.int .i64 x1) := Go.Joins.cell_of_block X2.out 0
      have xx1 : u2.cell? ⟨w.heap.size, 1, none⟩ = some (.int .i64 x2) := Go.Joins.cell_of_block X2.out 1
      have xx2 : u2.cell? ⟨w.heap.size, 2, none⟩ = some (.bool x3) := Go.Joins.cell_of_block X2.out 2
      have xx3 : u2.cell? ⟨w.heap.size, 3, none⟩ = some (.bool x4) := Go.Joins.cell_of_block X2.out 3
      have xx4 : u2.cell? ⟨w.heap.size, 4, none⟩ = some (.bool x5) := Go.Joins.cell_of_block X2.out 4
      have xx5 : u2.cell? ⟨w.heap.size, 5, none⟩ = some (.int .i64 x6) := Go.Joins.cell_of_block X2.out 5
      have lx2 : w.heap.size < u2.heap.size := blk_lt X2.out
      go_upto_region 7 with fail
      go_cut [51] (fun cc wx => ∃ bq : Bool, cc = .bool bq ∧ (bq = true → f ≤ a ∧ a < t) ∧ (bq = false → ¬ (f ≤ a ∧ a < t)) ∧ wx = (u2.alloc (.cells #[.int .i64 f1, .int .i64 f2, .bool f3, .bool f4, .bool f5, .int .i64 f6] 31)))
      case first =>
        by_cases q1 : f ≤ a
        rotate_left
        · have d1 : decide (f ≤ a) = false := by simp [q1]
          go_wp2_with fail
          go_meet
          exact ⟨_, rfl, (fun q => by cases q), (fun _ q => by have := q.1; omega), rfl⟩
        have d1 : decide (f ≤ a) = true := by simp [q1]
        by_cases q2 : a < t
        rotate_left
        · have d2 : decide (a < t) = false := by simp [q2]
          go_wp2_with fail
          go_meet
          exact ⟨_, rfl, (fun q => by cases q), (fun _ q => by have := q.2; omega), rfl⟩
        have d2 : decide (a < t) = true := by simp [q2]
        go_wp2_with fail
        go_meet
        exact ⟨_, rfl, (fun _ => ⟨q1, q2⟩), (fun q => by cases q), rfl⟩
      case rest =>
        obtain ⟨bq, rfl, hq1, hq2, ew⟩ := hcut
        have ew2 := ew.symm
        subst ew2
        have Q1 : Hid (bq = true → f ≤ a ∧ a < t) := hq1
        have Q2 : Hid (bq = false → ¬ (f ≤ a ∧ a < t)) := hq2
        clear hq1 hq2 ew
        go_upto_if 51 with fail
        go_cut [15] (fun kk wx => ∃ (ok2 : Bool) (g1 g2 : Int) (g3 g4 g5 : Bool) (g6 : Int), kk = .bool ok2 ∧ Hid (da = if ok2 = true then some (g3, g4, g5, g6) else none) ∧ wx = (u2.alloc (.cells #[.int .i64 g1, .int .i64 g2, .bool g3, .bool g4, .bool g5, .int .i64 g6] 31)))
        case first =>
          cases bq
          · have NO := Q2.out rfl
            have DA : Hid (da = if ok = true then some (f3, f4, f5, f6) else none) := by show _ = _; rw [DDa.out, if_neg NO]; exact FAa.out
            clear DDa FAa NX NO
            go_wp2_with fail
            go_meet
            exact ⟨ok, f1, f2, f3, f4, f5, f6, rfl, DA, rfl⟩
          · have YES := Q1.out rfl
            rcases hw3 with hw | hw | hw
            · have DA : Hid (da = if true = true then some (x3, x4, x5, x6) else none) := by show _ = _; rw [DDa.out, if_pos YES, if_pos rfl]; unfold hhF; rw [if_pos hw]; rfl
              have hb1 : (how == 1) = true := by simp [hw]
              clear DDa FAa NX YES hw DD
              go_wp2_with fail
              go_meet
              exact ⟨true, x1, x2, x3, x4, x5, x6, rfl, DA, rfl⟩
            · have DA : Hid (da = if false = true then some (f3, f4, f5, f6) else none) := by show _ = _; rw [DDa.out, if_pos YES, if_neg (by simp)]; unfold hhF; rw [if_neg (by omega), if_pos hw]
              have hb1 : (how == 1) = false := by simp [hw]
              have hb2 : (how == 2) = true := by simp [hw]
              clear DDa FAa NX YES hw DD
              go_wp2_with fail
              go_meet
              exact ⟨false, f1, f2, f3, f4, f5, f6, rfl, DA, rfl⟩
            · have DA : Hid (da = if ok = true then some (x3, x4, x5, f6) else none) := by
                show _ = _
                rw [DDa.out, if_pos YES, FAa.out]; unfold hhF; rw [if_neg (by omega), if_neg (by omega)]
                cases ok <;> rfl
              have hb1 : (how == 1) = false := by simp [hw]
              have hb2 : (how == 2) = false := by simp [hw]
              have hb3 : (how == 3) = true := by simp [hw]
              clear DDa FAa NX YES hw DD
              go_wp2_with fail
              go_meet
              exact ⟨ok, f1, f2, x3, x4, x5, f6, rfl, DA, rfl⟩
        case rest =>
          obtain ⟨ok2, g1, g2, g3, g4, g5, g6, rfl, DA, ew⟩ := hcut
          have ew2 := ew.symm
          subst ew2
          clear ew Q1 Q2 DDa FAa
          cases ok2
          · have N2 : Hid (outK D E (i + 1) = OUT) := by show _ = _; rw [NX.out, DA.out]; rfl
            go_wp2_with fail
            go_roundw
            case rel => exact ⟨i + 1, by omega, by go_num, (by show OwnR _ _ _ _; rw [N2.out, ← HNO.out]; exact own_keep O2.out (Go.Joins.below_alloc1 _ _)), below_new B2.out _, ((Go.Joins.below_alloc1 _ _).block _ lx2).trans X2.out, ⟨((Go.Joins.below_alloc1 _ _).block _ lg2).trans G2.out.1, by rw [World.size_alloc]; omega⟩, (by rw [← HNO.out]; exact NB)⟩
            case measure => simp [intOf]; omega
          · have N2 : Hid (outK D E (i + 1) = withL OUT ⟨a, b, g3, g4, g5, g6⟩) := by show _ = _; rw [NX.out, DA.out]; rfl
            clear NX DA
            have OH : Hid (OwnR (u2.alloc (.cells #[.int .i64 a, .int .i64 b, .bool g3, .bool g4, .bool g5, .int .i64 g6] 31)) (w.heap.size + 1) (.slice p11 OUT.length c11) OUT) := own_keep O2.out (Go.Joins.below_alloc1 _ _)
            have BH : Hid (Below w.heap.size w (u2.alloc (.cells #[.int .i64 a, .int .i64 b, .bool g3, .bool g4, .bool g5, .int .i64 g6] 31))) := below_new B2.out _
            have XH : Hid ((u2.alloc (.cells #[.int .i64 a, .int .i64 b, .bool g3, .bool g4, .bool g5, .int .i64 g6] 31)).heap[w.heap.size]? = some (.cells #[.int .i64 x1, .int .i64 x2, .bool x3, .bool x4, .bool x5, .int .i64 x6] 31 (0, 0))) := ((Go.Joins.below_alloc1 _ _).block _ lx2).trans X2.out
            have GH : Hid ((u2.alloc (.cells #[.int .i64 a, .int .i64 b, .bool g3, .bool g4, .bool g5, .int .i64 g6] 31)).heap[ge]? = u1.heap[ge]? ∧ ge < (u2.alloc (.cells #[.int .i64 a, .int .i64 b, .bool g3, .bool g4, .bool g5, .int .i64 g6] 31)).heap.size) := ⟨((Go.Joins.below_alloc1 _ _).block _ lg2).trans G2.out.1, by rw [World.size_alloc]; omega⟩
            have RH : Hid ((u2.alloc (.cells #[.int .i64 a, .int .i64 b, .bool g3, .bool g4, .bool g5, .int .i64 g6] 31)).heap[u2.heap.size]? = some (.cells #[.int .i64 a, .int .i64 b, .bool g3, .bool g4, .bool g5, .int .i64 g6] 31 (0, 0))) := own1 u2 _
            have LB : Hid (∀ j, Value.ownBlock (.slice p11 OUT.length c11) = some j → j < u2.heap.size) := O2.out.lt
            clear B2 X2 G2 xx0 xx1 xx2 xx3 xx4 xx5
            have LR : Hid (0 < OUT.length → lastR OUT = OUT.getD (OUT.length - 1) Rg.zero) := fun _ => rfl
            go_upto_region 19 with fail
            go_cut [112] (fun cc wx => ∃ b2 : Bool, cc = .bool b2 ∧ Hid (b2 = (decide (0 < OUT.length) && Rg.joins (lastR OUT) ⟨a, b, g3, g4, g5, g6⟩)) ∧ ∃ q, wx = (u2.alloc (.cells #[.int .i64 a, .int .i64 b, .bool g3, .bool g4, .bool g5, .int .i64 g6] 31)).drewN q)
            case first =>
              clear N2
              cases nO with
              | zero =>
                have K4 : Hid (false = (decide (0 < OUT.length) && Rg.joins (lastR OUT) ⟨a, b, g3, g4, g5, g6⟩)) := by show _ = _; rw [HNO.out]; rfl
                have z0 : decide ((0 : Int) < 0) = false := rfl
                go_quiet (fail)
                go_wp2_with fail
                go_meet
                exact ⟨_, rfl, K4, _, rfl⟩
              | succ m =>
                obtain ⟨p', c', hv', _, IL⟩ := ownr_read O2.out
                cases hv'
                obtain ⟨go, hgo, _, go2, gc⟩ := IL m (by rw [HNO.out]; omega)
                subst hgo
                have LR2 := LR.out (by rw [HNO.out]; omega)
                rw [HNO.out, show m + 1 - 1 = m by omega] at LR2
                have KK : Hid (∀ b2 : Bool, b2 = Rg.joins (OUT.getD m Rg.zero) ⟨a, b, g3, g4, g5, g6⟩ → b2 = (decide (0 < OUT.length) && Rg.joins (lastR OUT) ⟨a, b, g3, g4, g5, g6⟩)) := fun b2 q => by rw [q, LR2, HNO.out]; simp
                clear LR2 IL LR
                generalize OUT.getD m Rg.zero = ss at gc KK
                obtain ⟨s1, s2, s3, s4, s5, s6⟩ := ss
                have z0 : decide ((0 : Int) < ((m + 1 : Nat) : Int)) = true := decide_eq_true (by omega)
                have z0' : decide ((0 : Int) < (m : Int) + 1) = true := decide_eq_true (by omega)
                have z1 : ((m + 1 : Nat) : Int) - 1 = (m : Int) := by omega
                have z2 : IntKind.i64.wrap (((m + 1 : Nat) : Int) - 1) = (m : Int) := by rw [IntKind.wrap_i64]; omega
                have z3 : IntKind.i64.wrap ((m : Int) + 1 - 1) = (m : Int) := by rw [IntKind.wrap_i64]; omega
                have z4 : IntKind.i64.wrap (m : Int) = (m : Int) := by rw [IntKind.wrap_i64]; omega
                have z5 : (m : Int) < (m : Int) + 1 := by omega
                have z6 : (0 : Int) ≤ (m : Int) := by omega
                have v1 : u2.cell? ⟨go, m * 6 + 1, none⟩ = some (.int .i64 s2) := gc 1 _ rfl
                have v2 : u2.cell? ⟨go, m * 6 + 2, none⟩ = some (.bool s3) := gc 2 _ rfl
                have v3 : u2.cell? ⟨go, m * 6 + 3, none⟩ = some (.bool s4) := gc 3 _ rfl
                have v4 : u2.cell? ⟨go, m * 6 + 4, none⟩ = some (.bool s5) := gc 4 _ rfl
                have v5 : u2.cell? ⟨go, m * 6 + 5, none⟩ = some (.int .i64 s6) := gc 5 _ rfl
                clear gc
                by_cases c2 : s2 = a
                rotate_left
                · have d2 : (s2 == a) = false := by simp [c2]
                  have K4 := KK.out false (by unfold Rg.joins; simp [c2])
                  have K5 : Hid _ := K4
                  clear K4 c2
                  go_quiet (fail)
                  go_wp2_with fail
                  go_meet
                  exact ⟨_, rfl, K5, _, rfl⟩
                have d2 : (s2 == a) = true := by simp [c2]
                by_cases c3 : s3 = g3
                rotate_left
                · have d3 : (s3 == g3) = false := by simp [c3]
                  have K4 := KK.out false (by unfold Rg.joins Rg.perm; simp [c3])
                  have K5 : Hid _ := K4
                  clear K4 c2 c3
                  go_quiet (fail)
                  go_wp2_with fail
                  go_meet
                  exact ⟨_, rfl, K5, _, rfl⟩
                by_cases c4 : s4 = g4
                rotate_left
                · have d4 : (s4 == g4) = false := by simp [c4]
                  have K4 := KK.out false (by unfold Rg.joins Rg.perm; simp [c4])
                  have K5 : Hid _ := K4
                  subst c3
                  clear K4 c2 c4
                  go_quiet (fail)
                  go_wp2_with fail
                  go_meet
                  exact ⟨_, rfl, K5, _, rfl⟩
                by_cases c5 : s5 = g5
                rotate_left
                · have d5 : (s5 == g5) = false := by simp [c5]
                  have K4 := KK.out false (by unfold Rg.joins Rg.perm; simp [c5])
                  have K5 : Hid _ := K4
                  subst c3 c4
                  clear K4 c2 c5
                  go_quiet (fail)
                  go_wp2_with fail
                  go_meet
                  exact ⟨_, rfl, K5, _, rfl⟩
                by_cases c6 : s6 = g6
                · have d6 : (s6 == g6) = true := by simp [c6]
                  have K4 := KK.out true (by unfold Rg.joins Rg.perm; simp [c2, c3, c4, c5, c6])
                  have K5 : Hid _ := K4
                  subst c3 c4 c5
                  clear K4 c2 c6
                  go_quiet (fail)
                  go_wp2_with fail
                  go_meet
                  exact ⟨_, rfl, K5, _, rfl⟩
                · have d6 : (s6 == g6) = false := by simp [c6]
                  have K4 := KK.out false (by unfold Rg.joins Rg.perm; simp [c6])
                  have K5 : Hid _ := K4
                  subst c3 c4 c5
                  clear K4 c2 c6
                  go_quiet (fail)
                  go_wp2_with fail
                  go_meet
                  exact ⟨_, rfl, K5, _, rfl⟩
            case rest =>
              obtain ⟨b2, rfl, hb2, q, ew⟩ := hcut
              have ew2 := ew.symm
              subst ew2
              have KB : Hid (b2 = (decide (0 < OUT.length) && Rg.joins (lastR OUT) ⟨a, b, g3, g4, g5, g6⟩)) := hb2
              have OV : Hid (OwnR ((u2.alloc (.cells #[.int .i64 a, .int .i64 b, .bool g3, .bool g4, .bool g5, .int .i64 g6] 31)).drewN q) (w.heap.size + 1) (.slice p11 OUT.length c11) OUT) := OH.out
              have BV : Hid (Below w.heap.size w ((u2.alloc (.cells #[.int .i64 a, .int .i64 b, .bool g3, .bool g4, .bool g5, .int .i64 g6] 31)).drewN q)) := ⟨BH.out.os, BH.out.tape, BH.out.output, BH.out.size, BH.out.block⟩
              have XV : Hid (((u2.alloc (.cells #[.int .i64 a, .int .i64 b, .bool g3, .bool g4, .bool g5, .int .i64 g6] 31)).drewN q).heap[w.heap.size]? = some (.cells #[.int .i64 x1, .int .i64 x2, .bool x3, .bool x4, .bool x5, .int .i64 x6] 31 (0, 0))) := XH.out
              have GV : Hid (((u2.alloc (.cells #[.int .i64 a, .int .i64 b, .bool g3, .bool g4, .bool g5, .int .i64 g6] 31)).drewN q).heap[ge]? = u1.heap[ge]? ∧ ge < ((u2.alloc (.cells #[.int .i64 a, .int .i64 b, .bool g3, .bool g4, .bool g5, .int .i64 g6] 31)).drewN q).heap.size) := GH.out
              have RV : Hid (((u2.alloc (.cells #[.int .i64 a, .int .i64 b, .bool g3, .bool g4, .bool g5, .int .i64 g6] 31)).drewN q).heap[u2.heap.size]? = some (.cells #[.int .i64 a, .int .i64 b, .bool g3, .bool g4, .bool g5, .int .i64 g6] 31 (0, 0))) := RH.out
              clear hb2 ew OH BH XH GH RH O2 ga2 gb2 lg2 lx2
              generalize (u2.alloc (.cells #[.int .i64 a, .int .i64 b, .bool g3, .bool g4, .bool g5, .int .i64 g6] 31)).drewN q = V at OV BV XV GV RV ⊢
              have NB2 : Hid (∀ j, Value.ownBlock (.slice p11 OUT.length c11) = some j → j ≠ ge) := NB
              clear NB
              generalize u2.heap.size = rb at RV LB ⊢
              have r0 : V.cell? ⟨rb, 0, none⟩ = some (.int .i64 a) := Go.Joins.cell_of_block RV.out 0
              have r1 : V.cell? ⟨rb, 1, none⟩ = some (.int .i64 b) := Go.Joins.cell_of_block RV.out 1
              have r2 : V.cell? ⟨rb, 2, none⟩ = some (.bool g3) := Go.Joins.cell_of_block RV.out 2
              have r3 : V.cell? ⟨rb, 3, none⟩ = some (.bool g4) := Go.Joins.cell_of_block RV.out 3
              have r4 : V.cell? ⟨rb, 4, none⟩ = some (.bool g5) := Go.Joins.cell_of_block RV.out 4
              have r5 : V.cell? ⟨rb, 5, none⟩ = some (.int .i64 g6) := Go.Joins.cell_of_block RV.out 5
              have lr : rb < V.heap.size := blk_lt RV.out
              cases b2
              · have N3 : Hid (outK D E (i + 1) = OUT ++ [⟨a, b, g3, g4, g5, g6⟩]) := by show _ = _; rw [N2.out]; exact with_app AB.out KB.out.symm
                clear N2 KB
                have OW : Hid ((V.alloc (.cells #[.int .i64 a, .int .i64 b, .bool g3, .bool g4, .bool g5, .int .i64 g6] 31)).ownsRow (w.heap.size + 1) 31 6 (.slice p11 nO c11) nO (OUT.flatMap Rg.enc)) := by show World.ownsRow _ _ _ _ _ _ _; rw [← HNO.out]; exact own_keep OV.out (Go.Joins.below_alloc1 _ _)
                have NW : Hid (∀ j x, ([.int .i64 a, .int .i64 b, .bool g3, .bool g4, .bool g5, .int .i64 g6] : List Value)[j]? = some x → (V.alloc (.cells #[.int .i64 a, .int .i64 b, .bool g3, .bool g4, .bool g5, .int .i64 g6] 31)).cell? ((⟨V.heap.size, 0, none⟩ : Addr).add j) = some x) := news_cells1 V #[.int .i64 a, .int .i64 b, .bool g3, .bool g4, .bool g5, .int .i64 g6] 31
                have ON : Hid (∀ x ∈ ([.int .i64 a, .int .i64 b, .bool g3, .bool g4, .bool g5, .int .i64 g6] : List Value), x.oneCell' = true) := by show ∀ x ∈ ([.int .i64 a, .int .i64 b, .bool g3, .bool g4, .bool g5, .int .i64 g6] : List Value), x.oneCell' = true; simp [Value.oneCell']
                have BA : Hid (Below w.heap.size w (V.alloc (.cells #[.int .i64 a, .int .i64 b, .bool g3, .bool g4, .bool g5, .int .i64 g6] 31))) := below_new BV.out _
                have XA : Hid ((V.alloc (.cells #[.int .i64 a, .int .i64 b, .bool g3, .bool g4, .bool g5, .int .i64 g6] 31)).heap[w.heap.size]? = some (.cells #[.int .i64 x1, .int .i64 x2, .bool x3, .bool x4, .bool x5, .int .i64 x6] 31 (0, 0))) := ((Go.Joins.below_alloc1 _ _).block _ (blk_lt XV.out)).trans XV.out
                have GA : Hid ((V.alloc (.cells #[.int .i64 a, .int .i64 b, .bool g3, .bool g4, .bool g5, .int .i64 g6] 31)).heap[ge]? = u1.heap[ge]? ∧ ge < (V.alloc (.cells #[.int .i64 a, .int .i64 b, .bool g3, .bool g4, .bool g5, .int .i64 g6] 31)).heap.size) := ⟨((Go.Joins.below_alloc1 _ _).block _ GV.out.2).trans GV.out.1, by rw [World.size_alloc]; have := GV.out.2; omega⟩
                have HZ : Hid (w.heap.size + 1 ≤ (V.alloc (.cells #[.int .i64 a, .int .i64 b, .bool g3, .bool g4, .bool g5, .int .i64 g6] 31)).heap.size) := by show _ ≤ _; rw [World.size_alloc]; have := blk_lt XV.out; omega
                have MX : Hid (nO + 1 ≤ maxLen) := by show _ ≤ _; unfold maxLen; omega
                have BY : Hid ((nO + 1) * 32 ≤ 140737488355328) := by show _ ≤ _; omega
                have NB3 : Hid (∀ j, Value.ownBlock (.slice p11 nO c11) = some j → j ≠ ge) := by show ∀ j, _; rw [← HNO.out]; exact NB2.out
                clear OV BV XV GV RV LB NB2
                go_wp2_with (at_builtin; refine wpList_append_own_at _ rfl _ _ 26 rfl (w.heap.size + 1) 31 i0 zrg 6 32 Try.underlying26 hi hz0 hz1 hz2 rfl (by decide) (.slice p11 nO c11) nO (OUT.flatMap Rg.enc) rfl OW.out ⟨V.heap.size, 0, none⟩ 1 1 ([.int .i64 a, .int .i64 b, .bool g3, .bool g4, .bool g5, .int .i64 g6] : List Value) rfl rfl NW.out ON.out MX.out BY.out HZ.out ?_; intro v1 a0 hown hg hnil hblk; have O1 : Hid (OwnR a0 (w.heap.size + 1) v1 (OUT ++ [⟨a, b, g3, g4, g5, g6⟩])) := OwnR.next (by rw [HNO.out]; exact hown); have B1 : Hid (Below w.heap.size w a0) := BA.out.grown hg BA.out.size (fun j ej => Nat.le_trans (by omega) (own_base OW.out j ej)); have X1 : Hid (a0.heap[w.heap.size]? = some (.cells #[.int .i64 x1, .int .i64 x2, .bool x3, .bool x4, .bool x5, .int .i64 x6] 31 (0, 0))) := (hg.block _ (blk_lt XA.out) (fun e => (by have := own_base OW.out w.heap.size e.symm; omega))).trans XA.out; have G1 : Hid (a0.heap[ge]? = u1.heap[ge]? ∧ ge < a0.heap.size) := ⟨(hg.block _ GA.out.2 (fun e => NB3.out _ e.symm rfl)).trans GA.out.1, Nat.lt_of_lt_of_le GA.out.2 hg.size⟩; have N1 : Hid (∀ j, Value.ownBlock v1 = some j → j ≠ ge) := (fun j ej => hblk.elim (fun e => NB3.out j (e.symm.trans ej)) (fun e => (by have e2 := e.symm.trans ej; have e3 := Option.some.inj e2; have := GA.out.2; omega))); clear hown hg hnil hblk OW NW ON HZ MX BY BA XA GA NB3)
                go_wp2_with fail
                go_roundw
                case rel => exact ⟨i + 1, by omega, by go_num, (by show OwnR _ _ _ _; rw [N3.out]; exact O1.out), B1, X1, G1, N1.out⟩
                case measure => simp [intOf]; omega
              · cases nO with
                | zero => exact absurd KB.out (by rw [HNO.out]; simp)
                | succ m =>
                  have N3 : Hid (outK D E (i + 1) = OUT.set m ((OUT.getD m Rg.zero).upto b)) := by
                    show _ = _; rw [N2.out, with_set AB.out KB.out.symm, show OUT.length - 1 = m by rw [HNO.out]; omega]
                    unfold lastR; rw [show OUT.length - 1 = m by rw [HNO.out]; omega]
                  clear N2 KB
                  obtain ⟨p', c', hv', _, IL⟩ := ownr_read OV.out
                  cases hv'
                  obtain ⟨go, hgo, go1, go2, gc⟩ := IL m (by rw [HNO.out]; omega)
                  subst hgo
                  have wz : V.cell? ⟨go, m * 6 + 1, none⟩ = some (.int .i64 (OUT.getD m Rg.zero).to) := gc 1 _ rfl
                  have fz : V.frozen? ⟨go, m * 6 + 1, none⟩ = false := OV.out.free _
                  have z1 : ((m + 1 : Nat) : Int) - 1 = (m : Int) := by omega
                  have z5 : (m : Int) < (m : Int) + 1 := by omega
                  have z6 : (0 : Int) ≤ (m : Int) := by omega
                  have m2 : m + 1 ≤ 202 := lO
                  have m3 : (m : Int) ≤ 202 := by omega
                  have OS : Hid (OwnR (V.setCell ⟨go, m * 6 + 1, none⟩ (.int .i64 b)) (w.heap.size + 1) (.slice (some ⟨go, 0, none⟩) OUT.length c11) (OUT.set m ((OUT.getD m Rg.zero).upto b))) := OwnR.setTo OV.out m (by rw [HNO.out]; omega) b
                  have BS : Hid (Below w.heap.size w (V.setCell ⟨go, m * 6 + 1, none⟩ (.int .i64 b))) := Below.setCell BV.out (p := ⟨go, m * 6 + 1, none⟩) (show w.heap.size ≤ go by omega) _
                  have nge : ge ≠ go := fun e => NB2.out go rfl e.symm
                  have XS : Hid ((V.setCell ⟨go, m * 6 + 1, none⟩ (.int .i64 b)).heap[w.heap.size]? = some (.cells #[.int .i64 x1, .int .i64 x2, .bool x3, .bool x4, .bool x5, .int .i64 x6] 31 (0, 0))) := (set_block (by omega)).trans XV.out
                  have GS : Hid ((V.setCell ⟨go, m * 6 + 1, none⟩ (.int .i64 b)).heap[ge]? = u1.heap[ge]? ∧ ge < (V.setCell ⟨go, m * 6 + 1, none⟩ (.int .i64 b)).heap.size) := ⟨(set_block nge).trans GV.out.1, Nat.lt_of_lt_of_le GV.out.2 (grown_setCell1 V go (m * 6 + 1) _).size⟩
                  clear gc IL OV BV XV GV RV LB
                  generalize (OUT.getD m Rg.zero).to = so at wz
                  go_wp2_with fail
                  go_roundw
                  case rel => exact ⟨i + 1, by omega, by go_num, (by show OwnR _ _ _ _; rw [N3.out, ← HNO.out]; exact OS.out), BS, XS, GS, (by rw [← HNO.out]; exact NB2.out)⟩
                  case measure => simp [intOf]; omega
    · have hd : decide ((i : Int) + 1 < (nE : Int)) = false := by simp; omega
      have ER : Hid (outK D E i = RES) := by show _ = _; rw [outK_end D E i (by rw [HNE.out]; omega)]; exact HRES.out
      rw [ER.out] at O LO ⊢
      obtain ⟨p2, c2, hv2, _, I2⟩ := ownr_read O.out
      have I2' : Hid (IsL wr (w.heap.size + 1) p2 RES) := I2
      have ib : (i : Int) ≤ 202 := by omega
      cases hv2
      clear I2 O
      go_wp2_with fail
      go_ret
      exact ⟨_, _, rfl, I2'.out.weak (Nat.le_succ _), Bl.out⟩
end Go.Proofs.Ytngaodfajihmmaa
