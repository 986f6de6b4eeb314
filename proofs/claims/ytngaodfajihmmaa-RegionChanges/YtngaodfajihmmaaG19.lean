/- Regions: where something begins or ends. -/
import Derived.Test.YtngaodfajihmmaaG17
import Derived.Test.YtngaodfajihmmaaG18
import Derived.Maps.AppendAt
namespace Go.Proofs.Ytngaodfajihmmaa
open Go.ChangeShapes Go.WideShapes Go.ChangeAt Go.RowKit Go.Maps
set_option linter.unusedSimpArgs false
set_option linter.unusedVariables false

theorem wanted_mp {c : Prop} [Decidable c] {a b : Prop} (h : c) (ha : a) : if c then a else b := by rw [if_pos h]; exact ha
def encI (L : List Int) : List Value := L.map (fun x => Value.int .i64 x)
theorem encI_len (L : List Int) : (encI L).length = L.length := by unfold encI; rw [List.length_map]
theorem encI_app (L M : List Int) : encI (L ++ M) = encI L ++ encI M := by unfold encI; rw [List.map_append]
theorem int_info5 : (Try.prog.info? 3).map (fun i => (i.zero, i.size, i.bytes)) = some (some (.int .i64 0), 1, 8) := by kernel_rfl
/-- a list of numbers in the making -/
def OwnI (w : World) (base : Nat) (v : Value) (L : List Int) : Prop := w.ownsRow base 3 1 v L.length (encI L)
/-- a list of numbers that lies in memory -/
def IsI (w : World) (base : Nat) (p : Option Addr) (L : List Int) : Prop := ∀ i, i < L.length → ∃ g, p = some ⟨g, 0, none⟩ ∧ base ≤ g ∧ g < w.heap.size ∧ w.cell? ⟨g, i, none⟩ = some (.int .i64 (L.getD i 0))
theorem IsI.below {w w' : World} {base : Nat} {p : Option Addr} {L : List Int} (h : IsI w base p L) (hb : Below w.heap.size w w') : IsI w' base p L := fun i hi => by
  obtain ⟨g, e, l1, l2, c⟩ := h i hi
  exact ⟨g, e, l1, Nat.lt_of_lt_of_le l2 hb.size, (hb.cell (p := ⟨g, i, none⟩) l2).trans c⟩
theorem IsI.weak {w : World} {base base' : Nat} {p : Option Addr} {L : List Int} (h : IsI w base p L) (hb : base' ≤ base) : IsI w base' p L := fun i hi => by
  obtain ⟨g, e, l1, l2, c⟩ := h i hi
  exact ⟨g, e, by omega, l2, c⟩
theorem owni_read {w : World} {base : Nat} {v : Value} {L : List Int} (h : OwnI w base v L) : ∃ p c, v = .slice p L.length c ∧ IsI w base p L := by
  obtain ⟨h1, h2 | ⟨g, cap, cur, e1, e2, e3, e4, e5, e6, e7⟩⟩ := h
  · refine ⟨none, 0, by rw [h2.1, h2.2], fun i hi => ?_⟩
    rw [h2.2] at hi; exact absurd hi (Nat.not_lt_zero _)
  · refine ⟨_, cap, e1, fun i hi => ⟨g, rfl, e2, (Array.getElem?_eq_some_iff.1 e3).1, ?_⟩⟩
    rw [Go.Joins.cell_of_block e3 _]
    have : (cur.toList.take (L.length * 1))[i]? = (encI L)[i]? := by rw [e7]
    rw [List.getElem?_take, if_pos (by omega), Array.getElem?_toList] at this
    rw [this]
    unfold encI
    simp [List.getD, List.getElem?_eq_getElem hi]
theorem OwnI.next {w : World} {base : Nat} {v : Value} {L : List Int} {x : Int} (h : w.ownsRow base 3 1 v (L.length + 1) (encI L ++ [.int .i64 x])) : OwnI w base v (L ++ [x]) := by
  unfold OwnI; rw [encI_app, List.length_append]; exact h
theorem OwnI.weak {w : World} {base base' : Nat} {v : Value} {L : List Int} (h : OwnI w base v L) (hb : base' ≤ base) : OwnI w base' v L := by
  obtain ⟨h1, h2 | ⟨g, cap, cur, e1, e2, e3⟩⟩ := h
  · exact ⟨h1, Or.inl h2⟩
  · exact ⟨h1, Or.inr ⟨g, cap, cur, e1, by omega, e3⟩⟩
theorem OwnI.lt {w : World} {base : Nat} {v : Value} {L : List Int} (h : OwnI w base v L) : ∀ j, v.ownBlock = some j → j < w.heap.size := by
  obtain ⟨h1, h2 | ⟨g, cap, cur, e1, e2, e3, _⟩⟩ := h
  · intro j hj; rw [h2.1] at hj; cases hj
  · intro j hj; rw [e1] at hj; cases hj; exact (Array.getElem?_eq_some_iff.1 e3).1
theorem OwnI.grown {w w' : World} {base : Nat} {v : Value} {L : List Int} {r : Option Nat} (h : OwnI w base v L) (hg : w.grownBy w' r) (hr : v.ownBlock ≠ r ∨ v.ownBlock = none) : OwnI w' base v L := by
  obtain ⟨h1, h2 | ⟨g, cap, cur, e1, e2, e3, e4⟩⟩ := h
  · exact ⟨h1, Or.inl h2⟩
  · have hgl : g < w.heap.size := (Array.getElem?_eq_some_iff.1 e3).1
    have ob : v.ownBlock = some g := by rw [e1]; rfl
    refine ⟨h1, Or.inr ⟨g, cap, cur, e1, e2, (hg.block g hgl ?_).trans e3, e4⟩⟩
    rcases hr with q | q
    · rw [← ob]; exact q
    · rw [ob] at q; cases q
theorem starti (w : World) : OwnI (w.alloc (.cells #[] 3)) w.heap.size (.slice (some ⟨w.heap.size, 0, none⟩) 0 0) [] := ⟨rfl, Or.inr ⟨w.heap.size, 0, #[], rfl, Nat.le_refl _, own1 w _, by simp, by simp, rfl, rfl⟩⟩
theorem starti2 (w : World) (a b : Int) : OwnI (w.alloc (.cells #[.int .i64 a, .int .i64 b] 3)) w.heap.size (.slice (some ⟨w.heap.size, 0, none⟩) 2 2) [a, b] := ⟨rfl, Or.inr ⟨w.heap.size, 2, #[.int .i64 a, .int .i64 b], rfl, Nat.le_refl _, own1 w _, Nat.le_refl _, by decide, rfl, rfl⟩⟩
theorem wp_app_at {P : Program} (w : World) {o : Oper} {a : Act} {K : Act → World → Prop} {Q : Exit → Act → World → Prop} (s x : Operand) (t : TypeId)
    (ho : o.op = .call { callee := .builtin .append, args := #[s, x], argTypes := #[t, t] })
    (base : Nat) (e : TypeId) (i : TypeInfo) (z : Value) (size bytes : Nat) (ht : P.underlying t = some (.slice e)) (hi : P.info? e = some i) (hz : i.zero = some z)
    (hsize : i.size = size) (hby : i.bytes = bytes) (hzs : z.cells.size = size) (hsz : 0 < size)
    (v : Value) (n : Nat) (xs : List Value) (hs : a.eval s = v) (hown : w.ownsRow base e size v n xs)
    (ad : Addr) (m c : Nat) (news : List Value) (hx : a.eval x = .slice (some ad) m c) (hl : news.length = m * size) (hnews : ∀ j u, news[j]? = some u → w.cell? (ad.add j) = some u) (h1 : ∀ u ∈ news, u.oneCell' = true)
    (h63 : n + m ≤ maxLen) (hbytes : (n + m) * bytes ≤ 140737488355328) (hbase : base ≤ w.heap.size)
    (h : ∀ v' w', w'.ownsRow base e size v' (n + m) (xs ++ news) → w.grownBy w' v.ownBlock → (v'.ownBlock = v.ownBlock ∨ v'.ownBlock = some w.heap.size) → K (a.put o.dst v') w') : o.wp P a w K Q := by
  obtain ⟨v', w', hr, h2, h3, h4, h5⟩ := run_append_own_at (P := P) w base t o.type e i z size bytes ht hi hz hsize hby hzs hsz v n xs hown ad m c news hl hnews h1 h63 hbytes hbase
  unfold Oper.wp execOp
  simp only [ho, resolve, invoke, builtin, Sem.run_bind, Sem.run_pure, Result.andThen_ok, List.map_toArray, List.map_cons, List.map_nil, hs, hx, hr]
  exact h v' w' h2 h3 h5
theorem one_new {w : World} {b : Nat} {x : Int} (h : w.cell? ⟨b, 0, none⟩ = some (.int .i64 x)) : ∀ j u, ([.int .i64 x] : List Value)[j]? = some u → w.cell? ((⟨b, 0, none⟩ : Addr).add j) = some u := by
  intro j u hu
  cases j with
  | zero => cases hu; rw [Addr.add_mid]; exact h
  | succ j => simp at hu
theorem one_one (x : Int) : ∀ u ∈ ([.int .i64 x] : List Value), u.oneCell' = true := by
  intro u hu
  simp at hu
  subst hu; rfl
/-- what the inner loop holds -/
def stI (n : Int) : List Int × Bool → Int → List Int × Bool := fun s x => if s.2 = false ∧ n ≤ x then (s.1 ++ (if n < x then [n] else []) ++ [x], true) else (s.1 ++ [x], s.2)
def goI (n : Int) (l : List Int) : List Int × Bool := l.foldl (stI n) ([], false)
theorem stI_done (n : Int) : ∀ (l a : List Int), l.foldl (stI n) (a, true) = (a ++ l, true)
  | [], a => by simp
  | x :: l, a => by
    rw [List.foldl_cons]
    have : stI n (a, true) x = (a ++ [x], true) := by unfold stI; rw [if_neg (by simp)]
    rw [this, stI_done n l]; simp
theorem goI_is (n : Int) : ∀ (l a : List Int), (if (l.foldl (stI n) (a, false)).2 = true then (l.foldl (stI n) (a, false)).1 else (l.foldl (stI n) (a, false)).1 ++ [n]) = a ++ insU n l
  | [], a => by simp [insU]
  | x :: l, a => by
    rw [List.foldl_cons]
    by_cases c : n ≤ x
    · have : stI n (a, false) x = (a ++ (if n < x then [n] else []) ++ [x], true) := by unfold stI; rw [if_pos ⟨rfl, c⟩]
      rw [this, stI_done, if_pos rfl]
      unfold insU
      rw [if_pos c]
      by_cases d : n < x
      · rw [if_pos d, if_pos d]; simp
      · rw [if_neg d, if_neg d]; simp
    · have : stI n (a, false) x = (a ++ [x], false) := by unfold stI; rw [if_neg (fun q => c q.2)]
      rw [this, goI_is n l (a ++ [x])]
      rw [show insU n (x :: l) = x :: insU n l by rw [insU, if_neg c]]
      simp
theorem goI_end (n : Int) (l : List Int) : insU n l = if (goI n l).2 = true then (goI n l).1 else (goI n l).1 ++ [n] := by
  have := goI_is n l []
  unfold goI
  rw [this]; simp
theorem takeI (l : List Int) (i : Nat) (h : i < l.length) : l.take (i + 1) = l.take i ++ [l.getD i 0] := by
  rw [List.take_add_one, List.getElem?_eq_getElem h]
  have : l.getD i 0 = l[i] := by rw [List.getD, List.getElem?_eq_getElem h]; rfl
  rw [this]; rfl
theorem goI_next (n : Int) (l : List Int) (i : Nat) (h : i < l.length) : goI n (l.take (i + 1)) = stI n (goI n (l.take i)) (l.getD i 0) := by
  unfold goI
  rw [takeI l i h, List.foldl_append]; rfl
theorem insU_len (n : Int) : ∀ l, (insU n l).length ≤ l.length + 1
  | [] => by simp [insU]
  | x :: r => by
    unfold insU
    have := insU_len n r
    split
    · split <;> simp
    · simp; omega
theorem insAll_len : ∀ (l o : List Int), (insAll l o).length ≤ o.length + l.length
  | [], o => by simp [insAll]
  | n :: l, o => by
    have h1 := insAll_len l (insU n o)
    have h2 := insU_len n o
    show (insAll l (insU n o)).length ≤ _
    rw [List.length_cons]; omega
theorem insAll_next (l : List Int) (i : Nat) (h : i < l.length) : insAll (l.take (i + 1)) [] = insU (l.getD i 0) (insAll (l.take i) []) := by
  unfold insAll
  rw [takeI l i h, List.foldl_append]; rfl
theorem goI_len (n : Int) : ∀ (l : List Int) (s : List Int × Bool), (l.foldl (stI n) s).1.length ≤ s.1.length + 2 * l.length
  | [], s => by simp
  | x :: l, s => by
    rw [List.foldl_cons]
    have h1 := goI_len n l (stI n s x)
    have h2 : (stI n s x).1.length ≤ s.1.length + 2 := by
      unfold stI
      split
      · split <;> simp
      · simp
    rw [List.length_cons]; omega
theorem allE_len (L : List Rg) (f t : Int) : (allE L f t).length = 2 + L.length * 2 := by
  have hfl : ∀ M : List Rg, (M.flatMap (fun r => [r.fr, r.to])).length = M.length * 2 := fun M => by
    induction M with
    | nil => rfl
    | cons r M ih => rw [List.flatMap_cons, List.length_append, ih, List.length_cons]; simp; omega
  unfold allE
  rw [List.length_append, hfl]; simp

set_option maxHeartbeats 8000000 in
theorem ends_any (base : Nat) (p : Option Addr) (c : Nat) (L : List Rg) (hL : L.length ≤ 100) (f t : Int) (w : World) (h : IsL w base p L) :
    Calls Try.prog 33 #[.slice p L.length c, .int .i64 f, .int .i64 t] w fun e w' => ∃ p' c', e = .returned (.slice p' (endsL L f t).length c') ∧ IsI w' w.heap.size p' (endsL L f t) ∧ Below w.heap.size w w' := by
  obtain ⟨i0, hi, hz0, hz1, hz2⟩ := info5 int_info5
  have HI : Hid (IsL w base p L) := h
  clear h
  obtain ⟨RES, hRES⟩ : ∃ R, endsL L f t = R := ⟨_, rfl⟩
  have HRS : Hid (insAll (allE L f t) [] = RES) := hRES
  rw [hRES]
  clear hRES
  obtain ⟨n, hn⟩ : ∃ n, L.length = n := ⟨_, rfl⟩
  have HN : Hid (L.length = n) := hn
  rw [hn] at hL ⊢
  clear hn
  go_enter Try.func33, Try.ntmps33
  go_wp2_with fail
  go_loopw [8, 23] (fun v x W => ∃ (k : Nat), k ≤ n ∧ x = .int .i64 k ∧ Hid (OwnI W (w.heap.size + 1) v (allE (L.take k) f t)) ∧ Hid (Below w.heap.size w W) ∧ Hid (W.heap[w.heap.size]? = some (.cells #[] 3 (0, 0)))) (fun _ x _ => n - (intOf x).toNat)
  case atStart => exact ⟨0, by omega, rfl, (by have := starti2 (w.alloc (.cells #[] 3)) f t; rw [World.size_alloc] at this; exact this), below_new (Go.Joins.below_alloc1 _ _) _, ((Go.Joins.below_alloc1 _ _).block _ (by rw [World.size_alloc]; omega)).trans (own1 w _)⟩
  case round =>
    obtain ⟨k, hk, rfl, O, Bl, Z⟩ := hrel
    by_cases hlt : k < n
    · have hd : decide ((k : Int) < (n : Int)) = true := by simp; omega
      obtain ⟨g, rfl, g1, g2, gc⟩ := (HI.out.below Bl.out) k (by rw [HN.out]; exact hlt)
      have NX : Hid (allE (L.take (k + 1)) f t = allE (L.take k) f t ++ [(L.getD k Rg.zero).fr] ++ [(L.getD k Rg.zero).to]) := by
        show _ = _
        rw [takeR_next L k (by rw [HN.out]; exact hlt)]
        unfold allE
        simp [List.flatMap_append]
      have AL : Hid ((allE (L.take k) f t).length ≤ 300) := by
        show _ ≤ _
        have hfl : ∀ M : List Rg, (M.flatMap (fun r => [r.fr, r.to])).length = M.length * 2 := fun M => by
          induction M with
          | nil => rfl
          | cons r M ih => rw [List.flatMap_cons, List.length_append, ih, List.length_cons]; simp; omega
        unfold allE
        rw [List.length_append, hfl, List.length_take]
        simp
        omega
      generalize L.getD k Rg.zero = rr at gc NX
      obtain ⟨r1, r2, r3, r4, r5, r6⟩ := rr
      simp only at NX
      have y0 : wr.cell? ⟨g, k * 6, none⟩ = some (.int .i64 r1) := gc 0 _ rfl
      have y1 : wr.cell? ⟨g, k * 6 + 1, none⟩ = some (.int .i64 r2) := gc 1 _ rfl
      have y2 : wr.cell? ⟨g, k * 6 + 2, none⟩ = some (.bool r3) := gc 2 _ rfl
      have y3 : wr.cell? ⟨g, k * 6 + 3, none⟩ = some (.bool r4) := gc 3 _ rfl
      have y4 : wr.cell? ⟨g, k * 6 + 4, none⟩ = some (.bool r5) := gc 4 _ rfl
      have y5 : wr.cell? ⟨g, k * 6 + 5, none⟩ = some (.int .i64 r6) := gc 5 _ rfl
      clear gc
      generalize allE (L.take k) f t = M at O AL NX
      have LV : Hid (∀ j, Value.ownBlock u8 = some j → j < wr.heap.size) := O.out.lt
      have OB : Hid (OwnI (wr.alloc (.cells #[.int .i64 r1, .int .i64 r2, .bool r3, .bool r4, .bool r5, .int .i64 r6] 31)) (w.heap.size + 1) u8 M) := own_keep O.out (Go.Joins.below_alloc1 _ _)
      have BB : Hid (Below w.heap.size w (wr.alloc (.cells #[.int .i64 r1, .int .i64 r2, .bool r3, .bool r4, .bool r5, .int .i64 r6] 31))) := below_new Bl.out _
      have XB : Hid ((wr.alloc (.cells #[.int .i64 r1, .int .i64 r2, .bool r3, .bool r4, .bool r5, .int .i64 r6] 31)).heap[wr.heap.size]? = some (.cells #[.int .i64 r1, .int .i64 r2, .bool r3, .bool r4, .bool r5, .int .i64 r6] 31 (0, 0))) := own1 wr _
      have ZB : Hid ((wr.alloc (.cells #[.int .i64 r1, .int .i64 r2, .bool r3, .bool r4, .bool r5, .int .i64 r6] 31)).heap[w.heap.size]? = some (.cells #[] 3 (0, 0))) := ((Go.Joins.below_alloc1 _ _).block _ (blk_lt Z.out)).trans Z.out
      clear O Bl Z
      go_upto_region 6 with fail
      clear y0 y1 y2 y3 y4 y5
      have XN : Hid (∀ j, Value.ownBlock u8 = some j → j ≠ wr.heap.size) := fun j ej => (by have := LV.out j ej; omega)
      clear LV
      generalize wr.heap.size = q at XB XN ⊢
      generalize (wr.alloc (.cells #[.int .i64 r1, .int .i64 r2, .bool r3, .bool r4, .bool r5, .int .i64 r6] 31)) = u0 at OB BB XB ZB ⊢
      refine wp_region_noPanic ?_
      refine wp_region_held_drew (S := fun c => c.heap[q]? = some (.cells #[.int .i64 r1, .int .i64 r2, .bool r3, .bool r4, .bool r5, .int .i64 r6] 31 (0, 0))) (by kernel_rfl) ?_ (fun hHeld => ?_)
      · exact XB.out
      refine wpAnyH_take (i := 0) (oi := ⟨some 27, _, _, _, _, none⟩) (v := ?_) rfl (by kernel_rfl) (by kernel_rfl) (by kernel_rfl) (fun _ _ _ h => h) (Or.inl ⟨by rfl, ?_⟩) (by assumption) ?_
      rotate_left
      · intro w hSw; (try dsimp only at hSw); go_simp; (try with_reducible rfl)
      try simp only [Act.put, List.setIfInBounds_toArray, List.set_cons_zero, List.set_cons_succ]
      refine wpAnyH_take (i := 1) (oi := ⟨some 28, _, _, _, _, none⟩) (v := ?_) rfl (by kernel_rfl) (by kernel_rfl) (by kernel_rfl) (fun _ _ _ h => h) (Or.inl ⟨by rfl, ?_⟩) (by assumption) ?_
      rotate_left
      · intro w hSw; (try dsimp only at hSw); go_simp; (try with_reducible rfl)
      try simp only [Act.put, List.setIfInBounds_toArray, List.set_cons_zero, List.set_cons_succ]
      refine wpAnyH_take (i := 2) (oi := ⟨some 29, _, _, _, _, none⟩) (v := .int .i64 r1) rfl (by kernel_rfl) (by kernel_rfl) (by kernel_rfl) (fun _ _ _ h => h) (Or.inl ⟨by rfl, ?_⟩) (by assumption) ?_
      · intro w hSw; (try dsimp only at hSw); have q0 : w.cell? ⟨q, 0, none⟩ = some (.int .i64 r1) := Go.Joins.cell_of_block hSw 0; go_simp; (try simp)
      try simp only [Act.put, List.setIfInBounds_toArray, List.set_cons_zero, List.set_cons_succ]
      refine wpAnyH_take (i := 5) (oi := ⟨some 32, _, _, _, _, none⟩) (v := ?_) rfl (by kernel_rfl) (by kernel_rfl) (by kernel_rfl) (fun _ _ _ h => h) (Or.inl ⟨by rfl, ?_⟩) (by assumption) ?_
      rotate_left
      · intro w hSw; (try dsimp only at hSw); go_simp; (try with_reducible rfl)
      try simp only [Act.put, List.setIfInBounds_toArray, List.set_cons_zero, List.set_cons_succ]
      refine wpAnyH_take (i := 6) (oi := ⟨some 33, _, _, _, _, none⟩) (v := .int .i64 r2) rfl (by kernel_rfl) (by kernel_rfl) (by kernel_rfl) (fun _ _ _ h => h) (Or.inl ⟨by rfl, ?_⟩) (by assumption) ?_
      · intro w hSw; (try dsimp only at hSw); have q0 : w.cell? ⟨q, 1, none⟩ = some (.int .i64 r2) := Go.Joins.cell_of_block hSw 1; go_simp; (try simp)
      try simp only [Act.put, List.setIfInBounds_toArray, List.set_cons_zero, List.set_cons_succ]
      have OU : Hid (OwnI u0.drew (w.heap.size + 1) u8 M) := OB.out
      have BU : Hid (Below w.heap.size w u0.drew) := ⟨BB.out.os, BB.out.tape, BB.out.output, BB.out.size, BB.out.block⟩
      have XU : Hid (u0.drew.heap[q]? = some (.cells #[.int .i64 r1, .int .i64 r2, .bool r3, .bool r4, .bool r5, .int .i64 r6] 31 (0, 0))) := XB.out
      have ZU : Hid (u0.drew.heap[w.heap.size]? = some (.cells #[] 3 (0, 0))) := ZB.out
      clear OB BB XB ZB
      generalize u0.drew = U at OU BU XU ZU hHeld ⊢
      refine wpAnyH_ready (rs := [3, 7]) (by kernel_rfl) (by simp) ?_
      refine AllReadyH.cons (o := ⟨some 30, _, _, _, _, none⟩) rfl (fun K hK => ?_) (AllReadyH.cons (o := ⟨some 34, _, _, _, _, none⟩) rfl (fun K hK => ?_) AllReadyH.nil)
      · go_simp
        have OUA : Hid (OwnI (U.alloc (.cells #[.int .i64 r1] 3)) (w.heap.size + 1) u8 M) := own_keep OU.out (Go.Joins.below_alloc1 _ _)
        have BUA : Hid (Below w.heap.size w (U.alloc (.cells #[.int .i64 r1] 3))) := below_new BU.out _
        have XUA : Hid ((U.alloc (.cells #[.int .i64 r1] 3)).heap[q]? = some (.cells #[.int .i64 r1, .int .i64 r2, .bool r3, .bool r4, .bool r5, .int .i64 r6] 31 (0, 0))) := ((Go.Joins.below_alloc1 _ _).block _ (blk_lt XU.out)).trans XU.out
        have ZUA : Hid ((U.alloc (.cells #[.int .i64 r1] 3)).heap[w.heap.size]? = some (.cells #[] 3 (0, 0))) := ((Go.Joins.below_alloc1 _ _).block _ (blk_lt ZU.out)).trans ZU.out
        have CUAA : Hid ((U.alloc (.cells #[.int .i64 r1] 3)).cell? ⟨U.heap.size, 0, none⟩ = some (.int .i64 r1) ∧ U.heap.size < (U.alloc (.cells #[.int .i64 r1] 3)).heap.size ∧ ∀ j, Value.ownBlock u8 = some j → j < U.heap.size) := ⟨by simp, by rw [World.size_alloc]; omega, OU.out.lt⟩
        clear hHeld
        refine hK.out _ _ XUA.out (fun hHeld => ?_)
        clear hK K OU BU XU ZU
        try simp only [Act.put, List.setIfInBounds_toArray, List.set_cons_zero, List.set_cons_succ]
        generalize U.heap.size = sA at CUAA ⊢
        generalize (U.alloc (.cells #[.int .i64 r1] 3)) = UA at OUA BUA XUA ZUA CUAA  hHeld ⊢
        refine wpAnyH_ready (rs := [4, 7]) (by kernel_rfl) (by simp) ?_
        refine AllReadyH.cons (o := ⟨some 31, _, _, _, _, none⟩) rfl (fun K hK => ?_) (AllReadyH.cons (o := ⟨some 34, _, _, _, _, none⟩) rfl (fun K hK => ?_) AllReadyH.nil)
        · refine wanted_mp rfl ?_
          refine wp_app_at UA (.tmp 27) (.tmp 30) 68 rfl (w.heap.size + 1) 3 i0 (.int .i64 0) 1 8 Try.underlying68 hi hz0 hz1 hz2 rfl (by decide) u8 (M).length (encI M) rfl OUA.out ⟨sA, 0, none⟩ 1 1 [.int .i64 r1] rfl rfl (one_new CUAA.out.1) (one_one _) (by unfold maxLen; have := AL.out; (try rw [List.length_append]); simp; omega) (by have := AL.out; (try rw [List.length_append]); simp; omega) (by have := blk_lt ZUA.out; omega) ?_
          intro v1 UB hown hg hat
          have XN1 : Hid (∀ j, Value.ownBlock v1 = some j → j ≠ q) := fun j ej => (by rcases hat with k | k; (rw [k] at ej; exact XN.out j ej); (rw [k] at ej; cases ej; have := blk_lt XUA.out; omega))
          have OUB : Hid (OwnI UB (w.heap.size + 1) v1 (M ++ [r1])) := OwnI.next hown
          have BUB : Hid (Below w.heap.size w UB) := BUA.out.grown hg BUA.out.size (fun j ej => Nat.le_of_succ_le (own_base OUA.out j ej))
          have ZUB : Hid (UB.heap[w.heap.size]? = some (.cells #[] 3 (0, 0))) := (hg.block _ (blk_lt ZUA.out) (fun e => by have := own_base OUA.out w.heap.size e.symm; omega)).trans ZUA.out
          have XUB : Hid (UB.heap[q]? = some (.cells #[.int .i64 r1, .int .i64 r2, .bool r3, .bool r4, .bool r5, .int .i64 r6] 31 (0, 0))) := (hg.block _ (blk_lt XUA.out) (fun e => XN.out q e.symm rfl)).trans XUA.out
          clear hown hg hat hHeld
          refine hK.out _ _ XUB.out (fun hHeld => ?_)
          clear hK K
          try simp only [Act.put, List.setIfInBounds_toArray, List.set_cons_zero, List.set_cons_succ]
          refine wpAnyH_ready (rs := [7]) (by kernel_rfl) (by simp) ?_
          refine AllReadyH.cons (o := ⟨some 34, _, _, _, _, none⟩) rfl (fun K hK => ?_) AllReadyH.nil
          go_simp
          have OUC : Hid (OwnI (UB.alloc (.cells #[.int .i64 r2] 3)) (w.heap.size + 1) v1 (M ++ [r1])) := own_keep OUB.out (Go.Joins.below_alloc1 _ _)
          have BUC : Hid (Below w.heap.size w (UB.alloc (.cells #[.int .i64 r2] 3))) := below_new BUB.out _
          have XUC : Hid ((UB.alloc (.cells #[.int .i64 r2] 3)).heap[q]? = some (.cells #[.int .i64 r1, .int .i64 r2, .bool r3, .bool r4, .bool r5, .int .i64 r6] 31 (0, 0))) := ((Go.Joins.below_alloc1 _ _).block _ (blk_lt XUB.out)).trans XUB.out
          have ZUC : Hid ((UB.alloc (.cells #[.int .i64 r2] 3)).heap[w.heap.size]? = some (.cells #[] 3 (0, 0))) := ((Go.Joins.below_alloc1 _ _).block _ (blk_lt ZUB.out)).trans ZUB.out
          have CUCC : Hid ((UB.alloc (.cells #[.int .i64 r2] 3)).cell? ⟨UB.heap.size, 0, none⟩ = some (.int .i64 r2) ∧ UB.heap.size < (UB.alloc (.cells #[.int .i64 r2] 3)).heap.size ∧ ∀ j, Value.ownBlock v1 = some j → j < UB.heap.size) := ⟨by simp, by rw [World.size_alloc]; omega, OUB.out.lt⟩
          clear hHeld
          refine hK.out _ _ XUC.out (fun hHeld => ?_)
          clear hK K OUB BUB XUB ZUB
          try simp only [Act.put, List.setIfInBounds_toArray, List.set_cons_zero, List.set_cons_succ]
          generalize UB.heap.size = sC at CUCC ⊢
          generalize (UB.alloc (.cells #[.int .i64 r2] 3)) = UC at OUC BUC XUC ZUC CUCC  hHeld ⊢
          refine wpAnyH_ready (rs := [8]) (by kernel_rfl) (by simp) ?_
          refine AllReadyH.cons (o := ⟨some 35, _, _, _, _, none⟩) rfl (fun K hK => ?_) AllReadyH.nil
          refine wanted_mp rfl ?_
          refine wp_app_at UC (.tmp 31) (.tmp 34) 68 rfl (w.heap.size + 1) 3 i0 (.int .i64 0) 1 8 Try.underlying68 hi hz0 hz1 hz2 rfl (by decide) v1 ((M ++ [r1])).length (encI (M ++ [r1])) rfl OUC.out ⟨sC, 0, none⟩ 1 1 [.int .i64 r2] rfl rfl (one_new CUCC.out.1) (one_one _) (by unfold maxLen; have := AL.out; (try rw [List.length_append]); simp; omega) (by have := AL.out; (try rw [List.length_append]); simp; omega) (by have := blk_lt ZUC.out; omega) ?_
          intro v2 UZ hown hg hat
          have XN2 : Hid (∀ j, Value.ownBlock v2 = some j → j ≠ q) := fun j ej => (by rcases hat with k | k; (rw [k] at ej; exact XN1.out j ej); (rw [k] at ej; cases ej; have := blk_lt XUC.out; omega))
          have OUZ : Hid (OwnI UZ (w.heap.size + 1) v2 ((M ++ [r1]) ++ [r2])) := OwnI.next hown
          have BUZ : Hid (Below w.heap.size w UZ) := BUC.out.grown hg BUC.out.size (fun j ej => Nat.le_of_succ_le (own_base OUC.out j ej))
          have ZUZ : Hid (UZ.heap[w.heap.size]? = some (.cells #[] 3 (0, 0))) := (hg.block _ (blk_lt ZUC.out) (fun e => by have := own_base OUC.out w.heap.size e.symm; omega)).trans ZUC.out
          have XUZ : Hid (UZ.heap[q]? = some (.cells #[.int .i64 r1, .int .i64 r2, .bool r3, .bool r4, .bool r5, .int .i64 r6] 31 (0, 0))) := (hg.block _ (blk_lt XUC.out) (fun e => XN1.out q e.symm rfl)).trans XUC.out
          clear hown hg hat hHeld
          refine hK.out _ _ XUZ.out (fun hHeld => ?_)
          clear hK K
          try simp only [Act.put, List.setIfInBounds_toArray, List.set_cons_zero, List.set_cons_succ]
          refine wpAnyH_take (i := 9) (oi := ⟨some 8, _, _, _, _, none⟩) (v := ?_) rfl (by kernel_rfl) (by kernel_rfl) (by kernel_rfl) (fun _ _ _ h => h) (Or.inl ⟨by rfl, ?_⟩) (by assumption) ?_
          rotate_left
          · intro w hSw; (try dsimp only at hSw); go_simp; (try with_reducible rfl)
          try simp only [Act.put, List.setIfInBounds_toArray, List.set_cons_zero, List.set_cons_succ]
          clear hHeld
          refine wpAnyH_done (by kernel_rfl) ?_ _
          refine NoPanic.normal ?_
          go_wp2_with fail
          go_roundw
          case rel => exact ⟨k + 1, by omega, by go_num, (by show OwnI _ _ _ _; rw [NX.out]; exact OUZ.out), BUZ, ZUZ⟩
          case measure => simp [intOf]; omega
        · go_simp
          have OUC : Hid (OwnI (UA.alloc (.cells #[.int .i64 r2] 3)) (w.heap.size + 1) u8 M) := own_keep OUA.out (Go.Joins.below_alloc1 _ _)
          have BUC : Hid (Below w.heap.size w (UA.alloc (.cells #[.int .i64 r2] 3))) := below_new BUA.out _
          have XUC : Hid ((UA.alloc (.cells #[.int .i64 r2] 3)).heap[q]? = some (.cells #[.int .i64 r1, .int .i64 r2, .bool r3, .bool r4, .bool r5, .int .i64 r6] 31 (0, 0))) := ((Go.Joins.below_alloc1 _ _).block _ (blk_lt XUA.out)).trans XUA.out
          have ZUC : Hid ((UA.alloc (.cells #[.int .i64 r2] 3)).heap[w.heap.size]? = some (.cells #[] 3 (0, 0))) := ((Go.Joins.below_alloc1 _ _).block _ (blk_lt ZUA.out)).trans ZUA.out
          have CUCC : Hid ((UA.alloc (.cells #[.int .i64 r2] 3)).cell? ⟨UA.heap.size, 0, none⟩ = some (.int .i64 r2) ∧ UA.heap.size < (UA.alloc (.cells #[.int .i64 r2] 3)).heap.size ∧ ∀ j, Value.ownBlock u8 = some j → j < UA.heap.size) := ⟨by simp, by rw [World.size_alloc]; omega, OUA.out.lt⟩
          have CUCA : Hid ((UA.alloc (.cells #[.int .i64 r2] 3)).cell? ⟨sA, 0, none⟩ = some (.int .i64 r1) ∧ sA < (UA.alloc (.cells #[.int .i64 r2] 3)).heap.size ∧ ∀ j, Value.ownBlock u8 = some j → j < sA) := ⟨((Go.Joins.below_alloc1 _ _).cell (p := ⟨sA, 0, none⟩) CUAA.out.2.1).trans CUAA.out.1, by rw [World.size_alloc]; have := CUAA.out.2.1; omega, CUAA.out.2.2⟩
          clear hHeld
          refine hK.out _ _ XUC.out (fun hHeld => ?_)
          clear hK K OUA BUA XUA ZUA
          try simp only [Act.put, List.setIfInBounds_toArray, List.set_cons_zero, List.set_cons_succ]
          generalize UA.heap.size = sC at CUCC ⊢
          generalize (UA.alloc (.cells #[.int .i64 r2] 3)) = UC at OUC BUC XUC ZUC CUCC CUCA hHeld ⊢
          refine wpAnyH_ready (rs := [4]) (by kernel_rfl) (by simp) ?_
          refine AllReadyH.cons (o := ⟨some 31, _, _, _, _, none⟩) rfl (fun K hK => ?_) AllReadyH.nil
          refine wanted_mp rfl ?_
          refine wp_app_at UC (.tmp 27) (.tmp 30) 68 rfl (w.heap.size + 1) 3 i0 (.int .i64 0) 1 8 Try.underlying68 hi hz0 hz1 hz2 rfl (by decide) u8 (M).length (encI M) rfl OUC.out ⟨sA, 0, none⟩ 1 1 [.int .i64 r1] rfl rfl (one_new CUCA.out.1) (one_one _) (by unfold maxLen; have := AL.out; (try rw [List.length_append]); simp; omega) (by have := AL.out; (try rw [List.length_append]); simp; omega) (by have := blk_lt ZUC.out; omega) ?_
          intro v1 UB hown hg hat
          have XN1 : Hid (∀ j, Value.ownBlock v1 = some j → j ≠ q) := fun j ej => (by rcases hat with k | k; (rw [k] at ej; exact XN.out j ej); (rw [k] at ej; cases ej; have := blk_lt XUC.out; omega))
          have OUB : Hid (OwnI UB (w.heap.size + 1) v1 (M ++ [r1])) := OwnI.next hown
          have BUB : Hid (Below w.heap.size w UB) := BUC.out.grown hg BUC.out.size (fun j ej => Nat.le_of_succ_le (own_base OUC.out j ej))
          have ZUB : Hid (UB.heap[w.heap.size]? = some (.cells #[] 3 (0, 0))) := (hg.block _ (blk_lt ZUC.out) (fun e => by have := own_base OUC.out w.heap.size e.symm; omega)).trans ZUC.out
          have XUB : Hid (UB.heap[q]? = some (.cells #[.int .i64 r1, .int .i64 r2, .bool r3, .bool r4, .bool r5, .int .i64 r6] 31 (0, 0))) := (hg.block _ (blk_lt XUC.out) (fun e => XN.out q e.symm rfl)).trans XUC.out
          have CUBC : Hid (UB.cell? ⟨sC, 0, none⟩ = some (.int .i64 r2) ∧ sC < UB.heap.size) := ⟨(World.cell?_of_block (w := UC) (a := ⟨sC, 0, none⟩) (hg.block _ CUCC.out.2.1 (fun e => by have := CUCC.out.2.2 sC e.symm; omega))).trans CUCC.out.1, Nat.lt_of_lt_of_le CUCC.out.2.1 hg.size⟩
          clear hown hg hat hHeld
          refine hK.out _ _ XUB.out (fun hHeld => ?_)
          clear hK K
          try simp only [Act.put, List.setIfInBounds_toArray, List.set_cons_zero, List.set_cons_succ]
          refine wpAnyH_ready (rs := [8]) (by kernel_rfl) (by simp) ?_
          refine AllReadyH.cons (o := ⟨some 35, _, _, _, _, none⟩) rfl (fun K hK => ?_) AllReadyH.nil
          refine wanted_mp rfl ?_
          refine wp_app_at UB (.tmp 31) (.tmp 34) 68 rfl (w.heap.size + 1) 3 i0 (.int .i64 0) 1 8 Try.underlying68 hi hz0 hz1 hz2 rfl (by decide) v1 ((M ++ [r1])).length (encI (M ++ [r1])) rfl OUB.out ⟨sC, 0, none⟩ 1 1 [.int .i64 r2] rfl rfl (one_new CUBC.out.1) (one_one _) (by unfold maxLen; have := AL.out; (try rw [List.length_append]); simp; omega) (by have := AL.out; (try rw [List.length_append]); simp; omega) (by have := blk_lt ZUB.out; omega) ?_
          intro v2 UZ hown hg hat
          have XN2 : Hid (∀ j, Value.ownBlock v2 = some j → j ≠ q) := fun j ej => (by rcases hat with k | k; (rw [k] at ej; exact XN1.out j ej); (rw [k] at ej; cases ej; have := blk_lt XUB.out; omega))
          have OUZ : Hid (OwnI UZ (w.heap.size + 1) v2 ((M ++ [r1]) ++ [r2])) := OwnI.next hown
          have BUZ : Hid (Below w.heap.size w UZ) := BUB.out.grown hg BUB.out.size (fun j ej => Nat.le_of_succ_le (own_base OUB.out j ej))
          have ZUZ : Hid (UZ.heap[w.heap.size]? = some (.cells #[] 3 (0, 0))) := (hg.block _ (blk_lt ZUB.out) (fun e => by have := own_base OUB.out w.heap.size e.symm; omega)).trans ZUB.out
          have XUZ : Hid (UZ.heap[q]? = some (.cells #[.int .i64 r1, .int .i64 r2, .bool r3, .bool r4, .bool r5, .int .i64 r6] 31 (0, 0))) := (hg.block _ (blk_lt XUB.out) (fun e => XN1.out q e.symm rfl)).trans XUB.out
          clear hown hg hat hHeld
          refine hK.out _ _ XUZ.out (fun hHeld => ?_)
          clear hK K
          try simp only [Act.put, List.setIfInBounds_toArray, List.set_cons_zero, List.set_cons_succ]
          refine wpAnyH_take (i := 9) (oi := ⟨some 8, _, _, _, _, none⟩) (v := ?_) rfl (by kernel_rfl) (by kernel_rfl) (by kernel_rfl) (fun _ _ _ h => h) (Or.inl ⟨by rfl, ?_⟩) (by assumption) ?_
          rotate_left
          · intro w hSw; (try dsimp only at hSw); go_simp; (try with_reducible rfl)
          try simp only [Act.put, List.setIfInBounds_toArray, List.set_cons_zero, List.set_cons_succ]
          clear hHeld
          refine wpAnyH_done (by kernel_rfl) ?_ _
          refine NoPanic.normal ?_
          go_wp2_with fail
          go_roundw
          case rel => exact ⟨k + 1, by omega, by go_num, (by show OwnI _ _ _ _; rw [NX.out]; exact OUZ.out), BUZ, ZUZ⟩
          case measure => simp [intOf]; omega
      · go_simp
        have OUC : Hid (OwnI (U.alloc (.cells #[.int .i64 r2] 3)) (w.heap.size + 1) u8 M) := own_keep OU.out (Go.Joins.below_alloc1 _ _)
        have BUC : Hid (Below w.heap.size w (U.alloc (.cells #[.int .i64 r2] 3))) := below_new BU.out _
        have XUC : Hid ((U.alloc (.cells #[.int .i64 r2] 3)).heap[q]? = some (.cells #[.int .i64 r1, .int .i64 r2, .bool r3, .bool r4, .bool r5, .int .i64 r6] 31 (0, 0))) := ((Go.Joins.below_alloc1 _ _).block _ (blk_lt XU.out)).trans XU.out
        have ZUC : Hid ((U.alloc (.cells #[.int .i64 r2] 3)).heap[w.heap.size]? = some (.cells #[] 3 (0, 0))) := ((Go.Joins.below_alloc1 _ _).block _ (blk_lt ZU.out)).trans ZU.out
        have CUCC : Hid ((U.alloc (.cells #[.int .i64 r2] 3)).cell? ⟨U.heap.size, 0, none⟩ = some (.int .i64 r2) ∧ U.heap.size < (U.alloc (.cells #[.int .i64 r2] 3)).heap.size ∧ ∀ j, Value.ownBlock u8 = some j → j < U.heap.size) := ⟨by simp, by rw [World.size_alloc]; omega, OU.out.lt⟩
        clear hHeld
        refine hK.out _ _ XUC.out (fun hHeld => ?_)
        clear hK K OU BU XU ZU
        try simp only [Act.put, List.setIfInBounds_toArray, List.set_cons_zero, List.set_cons_succ]
        generalize U.heap.size = sC at CUCC ⊢
        generalize (U.alloc (.cells #[.int .i64 r2] 3)) = UC at OUC BUC XUC ZUC CUCC  hHeld ⊢
        refine wpAnyH_ready (rs := [3]) (by kernel_rfl) (by simp) ?_
        refine AllReadyH.cons (o := ⟨some 30, _, _, _, _, none⟩) rfl (fun K hK => ?_) AllReadyH.nil
        go_simp
        have OUA : Hid (OwnI (UC.alloc (.cells #[.int .i64 r1] 3)) (w.heap.size + 1) u8 M) := own_keep OUC.out (Go.Joins.below_alloc1 _ _)
        have BUA : Hid (Below w.heap.size w (UC.alloc (.cells #[.int .i64 r1] 3))) := below_new BUC.out _
        have XUA : Hid ((UC.alloc (.cells #[.int .i64 r1] 3)).heap[q]? = some (.cells #[.int .i64 r1, .int .i64 r2, .bool r3, .bool r4, .bool r5, .int .i64 r6] 31 (0, 0))) := ((Go.Joins.below_alloc1 _ _).block _ (blk_lt XUC.out)).trans XUC.out
        have ZUA : Hid ((UC.alloc (.cells #[.int .i64 r1] 3)).heap[w.heap.size]? = some (.cells #[] 3 (0, 0))) := ((Go.Joins.below_alloc1 _ _).block _ (blk_lt ZUC.out)).trans ZUC.out
        have CUAA : Hid ((UC.alloc (.cells #[.int .i64 r1] 3)).cell? ⟨UC.heap.size, 0, none⟩ = some (.int .i64 r1) ∧ UC.heap.size < (UC.alloc (.cells #[.int .i64 r1] 3)).heap.size ∧ ∀ j, Value.ownBlock u8 = some j → j < UC.heap.size) := ⟨by simp, by rw [World.size_alloc]; omega, OUC.out.lt⟩
        have CUAC : Hid ((UC.alloc (.cells #[.int .i64 r1] 3)).cell? ⟨sC, 0, none⟩ = some (.int .i64 r2) ∧ sC < (UC.alloc (.cells #[.int .i64 r1] 3)).heap.size ∧ ∀ j, Value.ownBlock u8 = some j → j < sC) := ⟨((Go.Joins.below_alloc1 _ _).cell (p := ⟨sC, 0, none⟩) CUCC.out.2.1).trans CUCC.out.1, by rw [World.size_alloc]; have := CUCC.out.2.1; omega, CUCC.out.2.2⟩
        clear hHeld
        refine hK.out _ _ XUA.out (fun hHeld => ?_)
        clear hK K OUC BUC XUC ZUC
        try simp only [Act.put, List.setIfInBounds_toArray, List.set_cons_zero, List.set_cons_succ]
        generalize UC.heap.size = sA at CUAA ⊢
        generalize (UC.alloc (.cells #[.int .i64 r1] 3)) = UA at OUA BUA XUA ZUA CUAA CUAC hHeld ⊢
        refine wpAnyH_ready (rs := [4]) (by kernel_rfl) (by simp) ?_
        refine AllReadyH.cons (o := ⟨some 31, _, _, _, _, none⟩) rfl (fun K hK => ?_) AllReadyH.nil
        refine wanted_mp rfl ?_
        refine wp_app_at UA (.tmp 27) (.tmp 30) 68 rfl (w.heap.size + 1) 3 i0 (.int .i64 0) 1 8 Try.underlying68 hi hz0 hz1 hz2 rfl (by decide) u8 (M).length (encI M) rfl OUA.out ⟨sA, 0, none⟩ 1 1 [.int .i64 r1] rfl rfl (one_new CUAA.out.1) (one_one _) (by unfold maxLen; have := AL.out; (try rw [List.length_append]); simp; omega) (by have := AL.out; (try rw [List.length_append]); simp; omega) (by have := blk_lt ZUA.out; omega) ?_
        intro v1 UB hown hg hat
        have XN1 : Hid (∀ j, Value.ownBlock v1 = some j → j ≠ q) := fun j ej => (by rcases hat with k | k; (rw [k] at ej; exact XN.out j ej); (rw [k] at ej; cases ej; have := blk_lt XUA.out; omega))
        have OUB : Hid (OwnI UB (w.heap.size + 1) v1 (M ++ [r1])) := OwnI.next hown
        have BUB : Hid (Below w.heap.size w UB) := BUA.out.grown hg BUA.out.size (fun j ej => Nat.le_of_succ_le (own_base OUA.out j ej))
        have ZUB : Hid (UB.heap[w.heap.size]? = some (.cells #[] 3 (0, 0))) := (hg.block _ (blk_lt ZUA.out) (fun e => by have := own_base OUA.out w.heap.size e.symm; omega)).trans ZUA.out
        have XUB : Hid (UB.heap[q]? = some (.cells #[.int .i64 r1, .int .i64 r2, .bool r3, .bool r4, .bool r5, .int .i64 r6] 31 (0, 0))) := (hg.block _ (blk_lt XUA.out) (fun e => XN.out q e.symm rfl)).trans XUA.out
        have CUBC : Hid (UB.cell? ⟨sC, 0, none⟩ = some (.int .i64 r2) ∧ sC < UB.heap.size) := ⟨(World.cell?_of_block (w := UA) (a := ⟨sC, 0, none⟩) (hg.block _ CUAC.out.2.1 (fun e => by have := CUAC.out.2.2 sC e.symm; omega))).trans CUAC.out.1, Nat.lt_of_lt_of_le CUAC.out.2.1 hg.size⟩
        clear hown hg hat hHeld
        refine hK.out _ _ XUB.out (fun hHeld => ?_)
        clear hK K
        try simp only [Act.put, List.setIfInBounds_toArray, List.set_cons_zero, List.set_cons_succ]
        refine wpAnyH_ready (rs := [8]) (by kernel_rfl) (by simp) ?_
        refine AllReadyH.cons (o := ⟨some 35, _, _, _, _, none⟩) rfl (fun K hK => ?_) AllReadyH.nil
        refine wanted_mp rfl ?_
        refine wp_app_at UB (.tmp 31) (.tmp 34) 68 rfl (w.heap.size + 1) 3 i0 (.int .i64 0) 1 8 Try.underlying68 hi hz0 hz1 hz2 rfl (by decide) v1 ((M ++ [r1])).length (encI (M ++ [r1])) rfl OUB.out ⟨sC, 0, none⟩ 1 1 [.int .i64 r2] rfl rfl (one_new CUBC.out.1) (one_one _) (by unfold maxLen; have := AL.out; (try rw [List.length_append]); simp; omega) (by have := AL.out; (try rw [List.length_append]); simp; omega) (by have := blk_lt ZUB.out; omega) ?_
        intro v2 UZ hown hg hat
        have XN2 : Hid (∀ j, Value.ownBlock v2 = some j → j ≠ q) := fun j ej => (by rcases hat with k | k; (rw [k] at ej; exact XN1.out j ej); (rw [k] at ej; cases ej; have := blk_lt XUB.out; omega))
        have OUZ : Hid (OwnI UZ (w.heap.size + 1) v2 ((M ++ [r1]) ++ [r2])) := OwnI.next hown
        have BUZ : Hid (Below w.heap.size w UZ) := BUB.out.grown hg BUB.out.size (fun j ej => Nat.le_of_succ_le (own_base OUB.out j ej))
        have ZUZ : Hid (UZ.heap[w.heap.size]? = some (.cells #[] 3 (0, 0))) := (hg.block _ (blk_lt ZUB.out) (fun e => by have := own_base OUB.out w.heap.size e.symm; omega)).trans ZUB.out
        have XUZ : Hid (UZ.heap[q]? = some (.cells #[.int .i64 r1, .int .i64 r2, .bool r3, .bool r4, .bool r5, .int .i64 r6] 31 (0, 0))) := (hg.block _ (blk_lt XUB.out) (fun e => XN1.out q e.symm rfl)).trans XUB.out
        clear hown hg hat hHeld
        refine hK.out _ _ XUZ.out (fun hHeld => ?_)
        clear hK K
        try simp only [Act.put, List.setIfInBounds_toArray, List.set_cons_zero, List.set_cons_succ]
        refine wpAnyH_take (i := 9) (oi := ⟨some 8, _, _, _, _, none⟩) (v := ?_) rfl (by kernel_rfl) (by kernel_rfl) (by kernel_rfl) (fun _ _ _ h => h) (Or.inl ⟨by rfl, ?_⟩) (by assumption) ?_
        rotate_left
        · intro w hSw; (try dsimp only at hSw); go_simp; (try with_reducible rfl)
        try simp only [Act.put, List.setIfInBounds_toArray, List.set_cons_zero, List.set_cons_succ]
        clear hHeld
        refine wpAnyH_done (by kernel_rfl) ?_ _
        refine NoPanic.normal ?_
        go_wp2_with fail
        go_roundw
        case rel => exact ⟨k + 1, by omega, by go_num, (by show OwnI _ _ _ _; rw [NX.out]; exact OUZ.out), BUZ, ZUZ⟩
        case measure => simp [intOf]; omega
    · obtain rfl : k = n := by omega
      have hd : decide ((k : Int) < (k : Int)) = false := by simp
      have OA : Hid (OwnI wr (w.heap.size + 1) u8 (allE L f t)) := by
        have := O.out
        rw [← HN.out, List.take_length] at this; exact this
      obtain ⟨p8, c8, hv8, I8⟩ := owni_read OA.out
      have I8' : Hid (IsI wr 0 p8 (allE L f t)) := I8.weak (Nat.zero_le _)
      have LA : Hid ((allE L f t).length ≤ 202) := by show _ ≤ _; rw [allE_len]; have := HN.out; omega
      clear O OA I8
      subst hv8
      have lz := blk_lt Z.out
      have HRES : Hid (insAll (allE L f t) [] = RES) := HRS.out
      clear HRS
      generalize allE L f t = AE at I8' LA HRES ⊢
      obtain ⟨N, hN⟩ : ∃ N, AE.length = N := ⟨_, rfl⟩
      have HNN : Hid (AE.length = N) := hN
      have LA2 : N ≤ 202 := by rw [← hN]; exact LA.out
      rw [hN]
      clear hN
      go_wp2_with fail
      go_loopw [7, 39] (fun o x W => ∃ (m : Nat) (p7 : Option Addr) (c7 : Nat), m ≤ N ∧ o = .slice p7 (insAll (AE.take m) []).length c7 ∧ x = .int .i64 m ∧ Hid (IsI W 0 p7 (insAll (AE.take m) [])) ∧ Hid (IsI W w.heap.size p7 (insAll (AE.take m) [])) ∧ Hid (IsI W 0 p8 AE) ∧ Hid (Below w.heap.size w W)) (fun _ x _ => N - (intOf x).toNat)
      case atStart => exact ⟨0, some ⟨w.heap.size, 0, none⟩, 0, by omega, rfl, rfl, (fun i hi => absurd hi (Nat.not_lt_zero _)), (fun i hi => absurd hi (Nat.not_lt_zero _)), I8', Bl⟩
      case round =>
        obtain ⟨m, p7, c7, hm, rfl, rfl, hO, hO2, hA, hB⟩ := hrel
        obtain ⟨W0, hW0⟩ : ∃ x : World, x = wr := ⟨_, rfl⟩
        subst hW0
        by_cases hlm : m < N
        · have hd : decide ((m : Int) < (N : Int)) = true := by simp; omega
          obtain ⟨g, rfl, _, g2, gc⟩ := hA.out m (by rw [HNN.out]; exact hlm)
          have NX : Hid (insAll (AE.take (m + 1)) [] = insU (AE.getD m 0) (insAll (AE.take m) [])) := insAll_next AE m (by rw [HNN.out]; exact hlm)
          have LO : Hid ((insAll (AE.take m) []).length ≤ 202) := by
            show _ ≤ _
            have := insAll_len (AE.take m) []
            rw [List.length_take] at this
            simp at this
            omega
          generalize AE.getD m 0 = x at gc NX
          generalize insAll (AE.take m) [] = OL at hO hO2 NX LO ⊢
          obtain ⟨nO, hnO⟩ : ∃ q, OL.length = q := ⟨_, rfl⟩
          have HNO : Hid (OL.length = nO) := hnO
          have LO2 : nO ≤ 202 := by rw [← hnO]; exact LO.out
          rw [hnO]
          clear hnO
          go_wp2_with fail
          go_loopw [13, 14, 46] (fun v dn y W => ∃ (i : Nat) (d : Bool), i ≤ nO ∧ dn = .bool d ∧ y = .int .i64 i ∧ Hid (OwnI W W0.heap.size v (goI x (OL.take i)).1) ∧ Hid ((goI x (OL.take i)).2 = d) ∧ Hid (Below W0.heap.size W0 W)) (fun _ _ y _ => nO - (intOf y).toNat)
          case atStart => exact ⟨0, false, by omega, rfl, rfl, starti W0, rfl, Go.Joins.below_alloc1 _ _⟩
          case round =>
            obtain ⟨i, d, hi', rfl, rfl, O3, hD, B3⟩ := hrel
            by_cases hli : i < nO
            · have hd : decide ((i : Int) < (nO : Int)) = true := by simp; omega
              obtain ⟨g', hp7, _, g2', gc'⟩ := (hO.out.below B3.out) i (by rw [HNO.out]; exact hli)
              subst hp7
              have N3 : Hid (goI x (OL.take (i + 1)) = stI x (goI x (OL.take i)) (OL.getD i 0)) := goI_next x OL i (by rw [HNO.out]; exact hli)
              have L3 : Hid ((goI x (OL.take i)).1.length ≤ 500) := by
                show _ ≤ _
                have := goI_len x (OL.take i) ([], false)
                rw [List.length_take] at this
                simp at this
                unfold goI
                omega
              generalize OL.getD i 0 = y at gc' N3
              generalize goI x (OL.take i) = st at O3 hD N3 L3
              obtain ⟨S1, d'⟩ := st
              simp only at O3 hD L3
              have hDe := hD.out
              subst hDe
              unfold stI at N3
              simp only at N3
              have LB3 : Hid (W0.heap.size ≤ wr.heap.size) := B3.out.size
              have BLwr : Hid (Below W0.heap.size W0 wr) := B3
              have gc'' : wr.cell? ⟨g', i, none⟩ = some (.int .i64 y) := gc'
              clear gc' hD B3
              cases d'
              · by_cases c1 : x ≤ y
                · have e1 : decide (x ≤ y) = true := by simp [c1]
                  by_cases c2 : x < y
                  · have e2 : decide (x < y) = true := by simp [c2]
                    have N4 : Hid (goI x (OL.take (i + 1)) = (S1 ++ [x] ++ [y], true)) := by show _ = _; rw [N3.out, if_pos ⟨rfl, c1⟩, if_pos c2]
                    clear N3
                    have OWa1 : Hid ((wr.alloc (.cells #[.int .i64 x] 3)).ownsRow W0.heap.size 3 1 u13 (S1).length (encI S1)) := own_keep O3.out (Go.Joins.below_alloc1 _ _)
                    have NWa1 : Hid ((wr.alloc (.cells #[.int .i64 x] 3)).cell? ⟨wr.heap.size, 0, none⟩ = some (.int .i64 x)) := by show _ = _; simp
                    have HZa1 : Hid (W0.heap.size ≤ (wr.alloc (.cells #[.int .i64 x] 3)).heap.size) := by show _ ≤ _; rw [World.size_alloc]; have := BLwr.out.size; omega
                    have BAa1 : Hid (Below W0.heap.size W0 (wr.alloc (.cells #[.int .i64 x] 3))) := below_new BLwr.out _
                    have MXa1 : Hid ((S1).length + 1 ≤ maxLen) := by show _ ≤ _; unfold maxLen; have := L3.out; (try rw [List.length_append]); simp; omega
                    have BYa1 : Hid (((S1).length + 1) * 8 ≤ 140737488355328) := by show _ ≤ _; have := L3.out; (try rw [List.length_append]); simp; omega
                    go_wp2_with (first | (at_builtin; refine wpList_append_own _ rfl _ _ 68 rfl W0.heap.size 3 i0 (.int .i64 0) 1 8 Try.underlying68 hi hz0 hz1 hz2 rfl (by decide) u13 (S1).length (encI S1) rfl OWa1.out ⟨wr.heap.size, 0, none⟩ 1 1 [.int .i64 x] rfl rfl (one_new NWa1.out) (one_one _) MXa1.out BYa1.out HZa1.out ?_; intro v1 a1 hown hg hnil; have Oa1 : Hid (OwnI a1 W0.heap.size v1 (S1 ++ [x])) := OwnI.next hown; have BLa1 : Hid (Below W0.heap.size W0 a1) := below_grown BAa1.out OWa1.out hg; clear hown hg hnil OWa1 NWa1 HZa1 BAa1 MXa1 BYa1; have OWa2 : Hid ((a1.alloc (.cells #[.int .i64 y] 3)).ownsRow W0.heap.size 3 1 v1 ((S1 ++ [x])).length (encI (S1 ++ [x]))) := own_keep Oa1.out (Go.Joins.below_alloc1 _ _); have NWa2 : Hid ((a1.alloc (.cells #[.int .i64 y] 3)).cell? ⟨a1.heap.size, 0, none⟩ = some (.int .i64 y)) := (by show _ = _; simp); have HZa2 : Hid (W0.heap.size ≤ (a1.alloc (.cells #[.int .i64 y] 3)).heap.size) := (by show _ ≤ _; rw [World.size_alloc]; have := BLa1.out.size; omega); have BAa2 : Hid (Below W0.heap.size W0 (a1.alloc (.cells #[.int .i64 y] 3))) := below_new BLa1.out _; have MXa2 : Hid (((S1 ++ [x])).length + 1 ≤ maxLen) := (by show _ ≤ _; unfold maxLen; have := L3.out; (try rw [List.length_append]); simp; omega); have BYa2 : Hid ((((S1 ++ [x])).length + 1) * 8 ≤ 140737488355328) := (by show _ ≤ _; have := L3.out; (try rw [List.length_append]); simp; omega)) | (at_builtin; refine wpList_append_own _ rfl _ _ 68 rfl W0.heap.size 3 i0 (.int .i64 0) 1 8 Try.underlying68 hi hz0 hz1 hz2 rfl (by decide) v1 ((S1 ++ [x])).length (encI (S1 ++ [x])) rfl OWa2.out ⟨a1.heap.size, 0, none⟩ 1 1 [.int .i64 y] rfl rfl (one_new NWa2.out) (one_one _) MXa2.out BYa2.out HZa2.out ?_; intro v2 a2 hown hg hnil; have Oa2 : Hid (OwnI a2 W0.heap.size v2 ((S1 ++ [x]) ++ [y])) := OwnI.next hown; have BLa2 : Hid (Below W0.heap.size W0 a2) := below_grown BAa2.out OWa2.out hg; clear hown hg hnil OWa2 NWa2 HZa2 BAa2 MXa2 BYa2))
                    go_roundw
                    case rel => exact ⟨i + 1, true, by omega, rfl, by go_num, (by show OwnI _ _ _ _; rw [N4.out]; exact Oa2.out), (by show _ = _; rw [N4.out]), BLa2⟩
                    case measure => simp [intOf]; omega
                  · have e2 : decide (x < y) = false := by simp; omega
                    have N4 : Hid (goI x (OL.take (i + 1)) = (S1 ++ [y], true)) := by show _ = _; rw [N3.out, if_pos ⟨rfl, c1⟩, if_neg c2]; simp
                    clear N3
                    have OWa1 : Hid ((wr.alloc (.cells #[.int .i64 y] 3)).ownsRow W0.heap.size 3 1 u13 (S1).length (encI S1)) := own_keep O3.out (Go.Joins.below_alloc1 _ _)
                    have NWa1 : Hid ((wr.alloc (.cells #[.int .i64 y] 3)).cell? ⟨wr.heap.size, 0, none⟩ = some (.int .i64 y)) := by show _ = _; simp
                    have HZa1 : Hid (W0.heap.size ≤ (wr.alloc (.cells #[.int .i64 y] 3)).heap.size) := by show _ ≤ _; rw [World.size_alloc]; have := BLwr.out.size; omega
                    have BAa1 : Hid (Below W0.heap.size W0 (wr.alloc (.cells #[.int .i64 y] 3))) := below_new BLwr.out _
                    have MXa1 : Hid ((S1).length + 1 ≤ maxLen) := by show _ ≤ _; unfold maxLen; have := L3.out; (try rw [List.length_append]); simp; omega
                    have BYa1 : Hid (((S1).length + 1) * 8 ≤ 140737488355328) := by show _ ≤ _; have := L3.out; (try rw [List.length_append]); simp; omega
                    go_wp2_with (at_builtin; refine wpList_append_own _ rfl _ _ 68 rfl W0.heap.size 3 i0 (.int .i64 0) 1 8 Try.underlying68 hi hz0 hz1 hz2 rfl (by decide) u13 (S1).length (encI S1) rfl OWa1.out ⟨wr.heap.size, 0, none⟩ 1 1 [.int .i64 y] rfl rfl (one_new NWa1.out) (one_one _) MXa1.out BYa1.out HZa1.out ?_; intro v1 a1 hown hg hnil; have Oa1 : Hid (OwnI a1 W0.heap.size v1 (S1 ++ [y])) := OwnI.next hown; have BLa1 : Hid (Below W0.heap.size W0 a1) := below_grown BAa1.out OWa1.out hg; clear hown hg hnil OWa1 NWa1 HZa1 BAa1 MXa1 BYa1)
                    go_roundw
                    case rel => exact ⟨i + 1, true, by omega, rfl, by go_num, (by show OwnI _ _ _ _; rw [N4.out]; exact Oa1.out), (by show _ = _; rw [N4.out]), BLa1⟩
                    case measure => simp [intOf]; omega
                · have e1 : decide (x ≤ y) = false := by simp; omega
                  have N4 : Hid (goI x (OL.take (i + 1)) = (S1 ++ [y], false)) := by show _ = _; rw [N3.out, if_neg (fun q => c1 q.2)]
                  clear N3
                  have OWa1 : Hid ((wr.alloc (.cells #[.int .i64 y] 3)).ownsRow W0.heap.size 3 1 u13 (S1).length (encI S1)) := own_keep O3.out (Go.Joins.below_alloc1 _ _)
                  have NWa1 : Hid ((wr.alloc (.cells #[.int .i64 y] 3)).cell? ⟨wr.heap.size, 0, none⟩ = some (.int .i64 y)) := by show _ = _; simp
                  have HZa1 : Hid (W0.heap.size ≤ (wr.alloc (.cells #[.int .i64 y] 3)).heap.size) := by show _ ≤ _; rw [World.size_alloc]; have := BLwr.out.size; omega
                  have BAa1 : Hid (Below W0.heap.size W0 (wr.alloc (.cells #[.int .i64 y] 3))) := below_new BLwr.out _
                  have MXa1 : Hid ((S1).length + 1 ≤ maxLen) := by show _ ≤ _; unfold maxLen; have := L3.out; (try rw [List.length_append]); simp; omega
                  have BYa1 : Hid (((S1).length + 1) * 8 ≤ 140737488355328) := by show _ ≤ _; have := L3.out; (try rw [List.length_append]); simp; omega
                  go_wp2_with (at_builtin; refine wpList_append_own _ rfl _ _ 68 rfl W0.heap.size 3 i0 (.int .i64 0) 1 8 Try.underlying68 hi hz0 hz1 hz2 rfl (by decide) u13 (S1).length (encI S1) rfl OWa1.out ⟨wr.heap.size, 0, none⟩ 1 1 [.int .i64 y] rfl rfl (one_new NWa1.out) (one_one _) MXa1.out BYa1.out HZa1.out ?_; intro v1 a1 hown hg hnil; have Oa1 : Hid (OwnI a1 W0.heap.size v1 (S1 ++ [y])) := OwnI.next hown; have BLa1 : Hid (Below W0.heap.size W0 a1) := below_grown BAa1.out OWa1.out hg; clear hown hg hnil OWa1 NWa1 HZa1 BAa1 MXa1 BYa1)
                  go_roundw
                  case rel => exact ⟨i + 1, false, by omega, rfl, by go_num, (by show OwnI _ _ _ _; rw [N4.out]; exact Oa1.out), (by show _ = _; rw [N4.out]), BLa1⟩
                  case measure => simp [intOf]; omega
              · have N4 : Hid (goI x (OL.take (i + 1)) = (S1 ++ [y], true)) := by show _ = _; rw [N3.out, if_neg (by simp)]
                clear N3
                have OWa1 : Hid ((wr.alloc (.cells #[.int .i64 y] 3)).ownsRow W0.heap.size 3 1 u13 (S1).length (encI S1)) := own_keep O3.out (Go.Joins.below_alloc1 _ _)
                have NWa1 : Hid ((wr.alloc (.cells #[.int .i64 y] 3)).cell? ⟨wr.heap.size, 0, none⟩ = some (.int .i64 y)) := by show _ = _; simp
                have HZa1 : Hid (W0.heap.size ≤ (wr.alloc (.cells #[.int .i64 y] 3)).heap.size) := by show _ ≤ _; rw [World.size_alloc]; have := BLwr.out.size; omega
                have BAa1 : Hid (Below W0.heap.size W0 (wr.alloc (.cells #[.int .i64 y] 3))) := below_new BLwr.out _
                have MXa1 : Hid ((S1).length + 1 ≤ maxLen) := by show _ ≤ _; unfold maxLen; have := L3.out; (try rw [List.length_append]); simp; omega
                have BYa1 : Hid (((S1).length + 1) * 8 ≤ 140737488355328) := by show _ ≤ _; have := L3.out; (try rw [List.length_append]); simp; omega
                go_wp2_with (at_builtin; refine wpList_append_own _ rfl _ _ 68 rfl W0.heap.size 3 i0 (.int .i64 0) 1 8 Try.underlying68 hi hz0 hz1 hz2 rfl (by decide) u13 (S1).length (encI S1) rfl OWa1.out ⟨wr.heap.size, 0, none⟩ 1 1 [.int .i64 y] rfl rfl (one_new NWa1.out) (one_one _) MXa1.out BYa1.out HZa1.out ?_; intro v1 a1 hown hg hnil; have Oa1 : Hid (OwnI a1 W0.heap.size v1 (S1 ++ [y])) := OwnI.next hown; have BLa1 : Hid (Below W0.heap.size W0 a1) := below_grown BAa1.out OWa1.out hg; clear hown hg hnil OWa1 NWa1 HZa1 BAa1 MXa1 BYa1)
                go_roundw
                case rel => exact ⟨i + 1, true, by omega, rfl, by go_num, (by show OwnI _ _ _ _; rw [N4.out]; exact Oa1.out), (by show _ = _; rw [N4.out]), BLa1⟩
                case measure => simp [intOf]; omega
            · obtain rfl : i = nO := by omega
              have hd : decide ((i : Int) < (i : Int)) = false := by simp
              have E3 : Hid (insAll (AE.take (m + 1)) [] = if (goI x OL).2 = true then (goI x OL).1 else (goI x OL).1 ++ [x]) := by show _ = _; rw [NX.out]; exact goI_end x OL
              have tk : OL.take i = OL := by rw [← HNO.out, List.take_length]
              have L3 : Hid ((goI x OL).1.length ≤ 500) := by
                show _ ≤ _
                have h1 := goI_len x OL ([], false)
                have h2 := HNO.out
                unfold goI
                simp only [List.length_nil] at h1
                omega
              rw [tk] at O3 hD
              generalize goI x OL = st at O3 hD E3 L3
              obtain ⟨S1, d'⟩ := st
              simp only at O3 hD L3 E3
              have hDe := hD.out
              subst hDe
              clear tk
              cases d'
              · have E4 : Hid (insAll (AE.take (m + 1)) [] = S1 ++ [x]) := by show _ = _; rw [E3.out, if_neg (by simp)]
                have BLwr : Hid (Below W0.heap.size W0 wr) := B3
                have OWa1 : Hid ((wr.alloc (.cells #[.int .i64 x] 3)).ownsRow W0.heap.size 3 1 u13 (S1).length (encI S1)) := own_keep O3.out (Go.Joins.below_alloc1 _ _)
                have NWa1 : Hid ((wr.alloc (.cells #[.int .i64 x] 3)).cell? ⟨wr.heap.size, 0, none⟩ = some (.int .i64 x)) := by show _ = _; simp
                have HZa1 : Hid (W0.heap.size ≤ (wr.alloc (.cells #[.int .i64 x] 3)).heap.size) := by show _ ≤ _; rw [World.size_alloc]; have := BLwr.out.size; omega
                have BAa1 : Hid (Below W0.heap.size W0 (wr.alloc (.cells #[.int .i64 x] 3))) := below_new BLwr.out _
                have MXa1 : Hid ((S1).length + 1 ≤ maxLen) := by show _ ≤ _; unfold maxLen; have := L3.out; (try rw [List.length_append]); simp; omega
                have BYa1 : Hid (((S1).length + 1) * 8 ≤ 140737488355328) := by show _ ≤ _; have := L3.out; (try rw [List.length_append]); simp; omega
                go_wp2_with (at_builtin; refine wpList_append_own _ rfl _ _ 68 rfl W0.heap.size 3 i0 (.int .i64 0) 1 8 Try.underlying68 hi hz0 hz1 hz2 rfl (by decide) u13 (S1).length (encI S1) rfl OWa1.out ⟨wr.heap.size, 0, none⟩ 1 1 [.int .i64 x] rfl rfl (one_new NWa1.out) (one_one _) MXa1.out BYa1.out HZa1.out ?_; intro v1 a1 hown hg hnil; have Oa1 : Hid (OwnI a1 W0.heap.size v1 (S1 ++ [x])) := OwnI.next hown; have BLa1 : Hid (Below W0.heap.size W0 a1) := below_grown BAa1.out OWa1.out hg; clear hown hg hnil OWa1 NWa1 HZa1 BAa1 MXa1 BYa1; obtain ⟨p9, c9, hv9, I9⟩ := owni_read Oa1.out; subst hv9; have I9x : Hid (IsI a1 W0.heap.size p9 (S1 ++ [x])) := I9; clear I9)
                go_roundw
                case rel => exact ⟨m + 1, p9, c9, by omega, (by rw [E4.out]; first | rfl | simp), by go_num, (by show IsI _ _ _ _; rw [E4.out]; exact I9x.out.weak (Nat.zero_le _)), (by show IsI _ _ _ _; rw [E4.out]; exact I9x.out.weak hB.out.size), hA.out.below BLa1.out, below_then hB.out BLa1.out⟩
                case measure => simp [intOf]; omega
              · have E4 : Hid (insAll (AE.take (m + 1)) [] = S1) := by show _ = _; rw [E3.out, if_pos rfl]
                obtain ⟨p9, c9, hv9, I9⟩ := owni_read O3.out
                subst hv9
                have I9' : Hid (IsI wr W0.heap.size p9 S1) := I9
                clear I9 O3
                obtain ⟨n9, hn9⟩ : ∃ q, S1.length = q := ⟨_, rfl⟩
                have HN9 : Hid (S1.length = n9) := hn9
                rw [hn9]
                clear hn9
                go_wp2_with fail
                go_roundw
                case rel => exact ⟨m + 1, p9, c9, by omega, (by rw [E4.out, HN9.out]), by go_num, (by show IsI _ _ _ _; rw [E4.out]; exact I9'.out.weak (Nat.zero_le _)), (by show IsI _ _ _ _; rw [E4.out]; exact I9'.out.weak hB.out.size), hA.out.below B3.out, below_then hB.out B3.out⟩
                case measure => simp [intOf]; omega
        · obtain rfl : m = N := by omega
          have hd : decide ((m : Int) < (m : Int)) = false := by simp
          have ER : insAll (AE.take m) [] = RES := by rw [← HNN.out, List.take_length]; exact HRES.out
          rw [ER] at hO2 ⊢
          go_wp2_with fail
          go_ret
          exact ⟨p7, c7, rfl, hO2.out, hB.out⟩
end Go.Proofs.Ytngaodfajihmmaa
