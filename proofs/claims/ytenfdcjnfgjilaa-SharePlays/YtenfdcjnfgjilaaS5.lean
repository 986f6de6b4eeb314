/- Grants: Clear. -/
import Derived.Test.YtenfdcjnfgjilaaS4
namespace Go.Proofs.Ytenfdcjnfgjilaa
open Go.ChangeShapes Go.WideShapes Go.ChangeAt Go.RowKit Go.Maps
set_option linter.unusedSimpArgs false
set_option linter.unusedVariables false
set_option maxRecDepth 8000
set_option maxRecDepth 8000
set_option maxRecDepth 8000

/-- a row of numbers that lies at base or above -/
def IsRow (w : World) (base : Nat) (p : Option Addr) (L : List Nat) : Prop := ∀ i, i < L.length → ∃ g, p = some ⟨g, 0, none⟩ ∧ base ≤ g ∧ g < w.heap.size ∧ w.cell? ⟨g, i, none⟩ = some (.int .i64 (L.getD i 0 : Nat))
theorem IsRow.below {w w' : World} {base : Nat} {p : Option Addr} {L : List Nat} (h : IsRow w base p L) (hb : Below w.heap.size w w') : IsRow w' base p L := fun i hi => by
  obtain ⟨g, e, l1, l2, c⟩ := h i hi
  exact ⟨g, e, l1, Nat.lt_of_lt_of_le l2 hb.size, (hb.cell (p := ⟨g, i, none⟩) l2).trans c⟩
theorem IsRow.grown {w w' : World} {base b : Nat} {p : Option Addr} {L : List Nat} (h : IsRow w base p L) (hb : w.grownBy w' (some b)) (hl : b < base) : IsRow w' base p L := fun i hi => by
  obtain ⟨g, e, l1, l2, c⟩ := h i hi
  exact ⟨g, e, l1, Nat.lt_of_lt_of_le l2 hb.size, cell_grown hb l2 (by omega) c⟩
theorem row_read {w : World} {base : Nat} {v : Value} {L : List Nat} (h : w.ownsRow base 3 1 v L.length (numV L)) : ∃ p c, v = .slice p L.length c ∧ IsRow w base p L := by
  obtain ⟨h1, h2 | ⟨g, cap, cur, e1, e2, e3, e4, e5, e6, e7⟩⟩ := h
  · refine ⟨none, 0, by rw [h2.1, h2.2], fun i hi => ?_⟩
    rw [h2.2] at hi; exact absurd hi (Nat.not_lt_zero _)
  · refine ⟨_, cap, e1, fun i hi => ⟨g, rfl, e2, (Array.getElem?_eq_some_iff.1 e3).1, ?_⟩⟩
    rw [Go.Joins.cell_of_block e3 i]
    have : (cur.toList.take (L.length * 1))[i]? = (numV L)[i]? := by rw [e7]
    rw [List.getElem?_take, if_pos (by omega), Array.getElem?_toList] at this
    rw [this]
    unfold numV
    rw [List.getElem?_map, List.getElem?_eq_getElem hi]
    simp [List.getD, List.getElem?_eq_getElem hi]
theorem IsRow.weak {w : World} {base base' : Nat} {p : Option Addr} {L : List Nat} (h : IsRow w base p L) (hb : base' ≤ base) : IsRow w base' p L := fun i hi => by
  obtain ⟨g, e, l1, l2, c⟩ := h i hi
  exact ⟨g, e, by omega, l2, c⟩
theorem of_call (b : Nat) (T : Nat → Gr) (p : Int) (w : World) (h : IsTab w b T) :
    Calls Try.prog 10 #[.pointer (some ⟨b, 0, none⟩), .int .i64 p] w fun e w' => (∃ q c, e = .returned (.slice q (ofL T p 256).length c) ∧ IsRow w' w.heap.size q (ofL T p 256)) ∧ Below w.heap.size w w' :=
  (of_any b T p w h).mono fun e w' ⟨v, h1, h2, h3⟩ => by
    obtain ⟨q, c, rfl, h4⟩ := row_read h2
    exact ⟨⟨q, c, h1, h4⟩, h3⟩
theorem mem_of (T : Nat → Gr) (p : Int) (j : Nat) : ∀ n, j ∈ ofL T p n ↔ j < n ∧ ofP (T j) p = true
  | 0 => by simp [ofL]
  | n + 1 => by
    rw [ofL, List.mem_append, mem_of T p j n]
    by_cases c : ofP (T n) p = true
    · rw [if_pos c, List.mem_singleton]
      constructor
      · rintro (h | h)
        · exact ⟨by omega, h.2⟩
        · subst h; exact ⟨by omega, c⟩
      · rintro ⟨h1, h2⟩
        by_cases d : j = n
        · exact Or.inr d
        · exact Or.inl ⟨by omega, h2⟩
    · rw [if_neg c]
      constructor
      · rintro (h | h)
        · exact ⟨by omega, h.2⟩
        · cases h
      · rintro ⟨h1, h2⟩
        by_cases d : j = n
        · subst d; exact absurd h2 c
        · exact Or.inl ⟨by omega, h2⟩
/-- places are cleared one after the other -/
def clrL (T : Nat → Gr) : List Nat → (Nat → Gr)
  | [] => T
  | i :: r => clrL (putT T i Gr.zero) r
def goneL (T : Nat → Gr) : List Nat → List Gr
  | [] => []
  | i :: r => T i :: goneL (putT T i Gr.zero) r
theorem clr_snoc (x : Nat) : ∀ (A : List Nat) (T : Nat → Gr), clrL T (A ++ [x]) = putT (clrL T A) x Gr.zero
  | [], T => rfl
  | i :: r, T => clr_snoc x r _
theorem gone_snoc (x : Nat) : ∀ (A : List Nat) (T : Nat → Gr), goneL T (A ++ [x]) = goneL T A ++ [clrL T A x]
  | [], T => rfl
  | i :: r, T => by rw [List.cons_append, goneL, goneL, clrL, gone_snoc x r]; rfl
theorem gone_len : ∀ (A : List Nat) (T : Nat → Gr), (goneL T A).length = A.length
  | [], T => rfl
  | i :: r, T => by rw [goneL, List.length_cons, gone_len r, List.length_cons]
theorem own_weak {w : World} {base base' n e s : Nat} {v : Value} {xs : List Value} (h : w.ownsRow base e s v n xs) (hb : base' ≤ base) : w.ownsRow base' e s v n xs := by
  obtain ⟨h1, h2 | ⟨g, cap, cur, e1, e2, e3⟩⟩ := h
  · exact ⟨h1, Or.inl h2⟩
  · exact ⟨h1, Or.inr ⟨g, cap, cur, e1, Nat.le_trans hb e2, e3⟩⟩
theorem own_grown {w w' : World} {base n e s b : Nat} {v : Value} {xs : List Value} (h : w.ownsRow base e s v n xs) (hg : w.grownBy w' (some b)) (hb : b < base) : w'.ownsRow base e s v n xs := by
  obtain ⟨h1, h2 | ⟨g, cap, cur, e1, e2, e3, e4⟩⟩ := h
  · exact ⟨h1, Or.inl h2⟩
  · exact ⟨h1, Or.inr ⟨g, cap, cur, e1, e2, (hg.block g (Array.getElem?_eq_some_iff.1 e3).1 (fun e => by have := Option.some.inj e; omega)).trans e3, e4⟩⟩
theorem grown_own {u U a0 : World} {b n e s : Nat} {v : Value} {xs : List Value} (h : u.grownBy U (some b)) (O : U.ownsRow u.heap.size e s v n xs) (hg : U.grownBy a0 v.ownBlock) : u.grownBy a0 (some b) :=
  ⟨hg.os.trans h.os, hg.tape.trans h.tape, hg.output.trans h.output, Nat.le_trans h.size hg.size, fun j hj hne => (hg.block j (Nat.lt_of_lt_of_le hj h.size) (fun e => by have := own_base O j e.symm; omega)).trans (h.block j hj hne)⟩
theorem tab_same {w w' : World} {b : Nat} {T : Nat → Gr} (h : IsTab w b T) (hs : w.heap.size ≤ w'.heap.size) (e : w'.heap[b]? = w.heap[b]?) : IsTab w' b T := by
  obtain ⟨h1, h2, h3⟩ := h
  refine ⟨fun i hi j v hv => ?_, fun j hj => ?_, Nat.lt_of_lt_of_le h3 hs⟩
  · exact (World.cell?_of_block (w := w) (a := ⟨b, i * 6 + j, none⟩) e).trans (h1 i hi j v hv)
  · have e1 : w'.cell? ⟨b, 0 + j, none⟩ = w.cell? ⟨b, 0 + j, none⟩ := World.cell?_of_block (w := w) (a := ⟨b, 0 + j, none⟩) e
    have e2 : w'.frozen? ⟨b, 0 + j, none⟩ = w.frozen? ⟨b, 0 + j, none⟩ := World.frozen?_of_block (w := w) (a := ⟨b, 0 + j, none⟩) e
    rw [e1, e2]; exact h2 j hj
theorem tab_own {u U a0 : World} {b n e s : Nat} {v : Value} {xs : List Value} {T : Nat → Gr} (h : IsTab U b T) (hb : b < u.heap.size) (O : U.ownsRow u.heap.size e s v n xs) (hg : U.grownBy a0 v.ownBlock) : IsTab a0 b T :=
  tab_same h hg.size (hg.block b h.2.2 (fun e => by have := own_base O b e.symm; omega))
def encL (L : List Gr) : List Value := L.flatMap Gr.enc
theorem grant_info5 : (Try.prog.info? 24).map (fun i => (i.zero, i.size, i.bytes)) = some (some (.agg #[.int .i64 0, .int .i64 0, .int .i64 0, .bool false, .bool false, .int .i64 0]), 6, 40) := by kernel_rfl
set_option maxHeartbeats 8000000 in
theorem clear_any (b : Nat) (T : Nat → Gr) (p : Int) (w : World) (h : IsTab w b T) :
    Calls Try.prog 19 #[.pointer (some ⟨b, 0, none⟩), .int .i64 p] w fun e w' => ∃ v, e = .returned v ∧ w'.ownsRow w.heap.size 24 6 v (ofL T p 256).length (encL (goneL T (ofL T p 256))) ∧ IsTab w' b (clrL T (ofL T p 256)) ∧ w.grownBy w' (some b) := by
  obtain ⟨i0, hi, hz0, hz1, hz2⟩ := info5 grant_info5
  have OF : Hid (∀ W : World, IsTab W b T → Calls Try.prog 10 #[.pointer (some ⟨b, 0, none⟩), .int .i64 p] W fun e w' => (∃ q c, e = .returned (.slice q (ofL T p 256).length c) ∧ IsRow w' W.heap.size q (ofL T p 256)) ∧ Below W.heap.size W w') := fun W h => of_call b T p W h
  have HT : Hid (IsTab w b T) := h
  have hb := h.2.2
  have LM : Hid (∀ k, k < (ofL T p 256).length → (ofL T p 256).getD k 0 < 256) := fun k hk => by
    have : (ofL T p 256).getD k 0 ∈ ofL T p 256 := by
      rw [List.getD, List.getElem?_eq_getElem hk]; exact List.getElem_mem hk
    exact ((mem_of T p _ 256).1 this).1
  have LN : Hid ((ofL T p 256).length ≤ 256) := of_len T p 256
  clear h
  generalize ofL T p 256 = L at OF LM LN ⊢
  obtain ⟨N, hN⟩ : ∃ N, L.length = N := ⟨_, rfl⟩
  have HN : Hid (L.length = N) := hN
  rw [hN] at OF LM LN ⊢
  have ln : N ≤ 256 := LN.out
  clear hN
  go_enter Try.func19, Try.ntmps19
  go_wp2_with fail
  refine (OF.out _ HT.out).mono ?_
  rintro e u1 ⟨⟨q, c, rfl, hr⟩, hb1⟩
  have RW : Hid (IsRow u1 w.heap.size q L) := hr
  have B1 : Hid (Below w.heap.size w u1) := hb1
  have T1 : Hid (IsTab u1 b T) := HT.out.below hb1
  have lb : b < u1.heap.size := Nat.lt_of_lt_of_le hb hb1.size
  clear hr hb1 OF
  go_wp2_with fail
  go_loopw [5, 12] (fun v x W => ∃ k : Nat, k ≤ N ∧ x = .int .i64 k ∧ Hid (W.ownsRow u1.heap.size 24 6 v k (encL (goneL T (L.take k)))) ∧ Hid (IsTab W b (clrL T (L.take k))) ∧ Hid (u1.grownBy W (some b))) (fun _ x _ => N - (intOf x).toNat)
  case atStart => exact ⟨0, by omega, rfl, ⟨by simp [encL, goneL], Or.inl ⟨rfl, rfl⟩⟩, T1.out, grown_refl _ _⟩
  case round =>
    obtain ⟨k, hk, rfl, O, TT, GG⟩ := hrel
    by_cases hlt : k < N
    · have hd : decide ((k : Int) < (N : Int)) = true := by simp; omega
      have k0 : (0 : Int) ≤ (k : Int) := by omega
      obtain ⟨g, rfl, lg1, lg2, cg⟩ := RW.out k (by rw [HN.out]; exact hlt)
      have hm := LM.out k hlt
      have HK : Hid (L.take (k + 1) = L.take k ++ [L.getD k 0]) := by
        show _ = _
        have hkl : k < L.length := by rw [HN.out]; exact hlt
        rw [List.take_add_one, List.getElem?_eq_getElem hkl, List.getD, List.getElem?_eq_getElem hkl]; rfl
      generalize L.getD k 0 = m at cg hm HK
      have cm : wr.cell? ⟨g, k, none⟩ = some (.int .i64 m) := cell_grown GG.out lg2 (by omega) cg
      have lg : g < wr.heap.size := Nat.lt_of_lt_of_le lg2 GG.out.size
      have m0 : (0 : Int) ≤ (m : Int) := by omega
      have m6 : (m : Int) < 256 := by omega
      have lbw : b < wr.heap.size := TT.out.2.2
      have XO : Hid (encL (goneL T (L.take (k + 1))) = encL (goneL T (L.take k)) ++ (clrL T (L.take k) m).enc) := by
        show _ = _
        rw [HK.out, gone_snoc, encL, List.flatMap_append]; simp [encL]
      have XT : Hid (clrL T (L.take (k + 1)) = putT (clrL T (L.take k)) m Gr.zero) := by show _ = _; rw [HK.out, clr_snoc]
      generalize clrL T (L.take k) = TK at TT XO XT
      generalize encL (goneL T (L.take k)) = EK at O XO
      obtain ⟨l, hl⟩ : ∃ l, TK m = l := ⟨_, rfl⟩
      have c0 : wr.cell? ⟨b, m * 6, none⟩ = some (.int .i64 l.fr) := TT.out.cell (m) (by omega) 0 _ (by rw [hl]; rfl) _ (by omega)
      have c1 : wr.cell? ⟨b, m * 6 + 1, none⟩ = some (.int .i64 l.pg) := TT.out.cell (m) (by omega) 1 _ (by rw [hl]; rfl) _ (by omega)
      have c2 : wr.cell? ⟨b, m * 6 + 2, none⟩ = some (.int .i64 l.dst) := TT.out.cell (m) (by omega) 2 _ (by rw [hl]; rfl) _ (by omega)
      have c3 : wr.cell? ⟨b, m * 6 + 3, none⟩ = some (.bool l.wr) := TT.out.cell (m) (by omega) 3 _ (by rw [hl]; rfl) _ (by omega)
      have c4 : wr.cell? ⟨b, m * 6 + 4, none⟩ = some (.bool l.tk) := TT.out.cell (m) (by omega) 4 _ (by rw [hl]; rfl) _ (by omega)
      have c5 : wr.cell? ⟨b, m * 6 + 5, none⟩ = some (.int .i64 l.att) := TT.out.cell (m) (by omega) 5 _ (by rw [hl]; rfl) _ (by omega)
      have HL : Hid (TK m = l) := hl
      rw [hl] at XO
      clear hl
      obtain ⟨lf, lp, ld, lw, lt, la⟩ := l
      simp only [Gr.enc] at c0 c1 c2 c3 c4 c5 XO
      have OW : Hid ((wr.alloc (.cells #[.int .i64 lf, .int .i64 lp, .int .i64 ld, .bool lw, .bool lt, .int .i64 la] 24)).ownsRow u1.heap.size 24 6 u5 k EK) := own_keep O.out (Go.Joins.below_alloc1 _ _)
      have NW : Hid (∀ j x, ([.int .i64 lf, .int .i64 lp, .int .i64 ld, .bool lw, .bool lt, .int .i64 la] : List Value)[j]? = some x → (wr.alloc (.cells #[.int .i64 lf, .int .i64 lp, .int .i64 ld, .bool lw, .bool lt, .int .i64 la] 24)).cell? ((⟨wr.heap.size, 0, none⟩ : Addr).add j) = some x) := new_cells wr #[.int .i64 lf, .int .i64 lp, .int .i64 ld, .bool lw, .bool lt, .int .i64 la] 24
      have ON : Hid (∀ x ∈ ([.int .i64 lf, .int .i64 lp, .int .i64 ld, .bool lw, .bool lt, .int .i64 la] : List Value), x.oneCell' = true) := by show ∀ x ∈ ([.int .i64 lf, .int .i64 lp, .int .i64 ld, .bool lw, .bool lt, .int .i64 la] : List Value), x.oneCell' = true; simp [Value.oneCell']
      have HZ : Hid (u1.heap.size ≤ (wr.alloc (.cells #[.int .i64 lf, .int .i64 lp, .int .i64 ld, .bool lw, .bool lt, .int .i64 la] 24)).heap.size) := by show _ ≤ _; rw [World.size_alloc]; have := GG.out.size; omega
      have MX : Hid (k + 1 ≤ maxLen) := by show _ ≤ _; unfold maxLen; have := LN.out; omega
      have BY : Hid ((k + 1) * 40 ≤ 140737488355328) := by show _ ≤ _; have := LN.out; omega
      have TA : Hid (IsTab (wr.alloc (.cells #[.int .i64 lf, .int .i64 lp, .int .i64 ld, .bool lw, .bool lt, .int .i64 la] 24)) b TK) := TT.out.below (Go.Joins.below_alloc1 _ _)
      have GA : Hid (u1.grownBy (wr.alloc (.cells #[.int .i64 lf, .int .i64 lp, .int .i64 ld, .bool lw, .bool lt, .int .i64 la] 24)) (some b)) := grown_new GG.out _
      clear O TT GG T1
      go_wp2_with (at_builtin; refine wpList_append_own _ rfl _ _ 54 rfl u1.heap.size 24 i0 (.agg #[.int .i64 0, .int .i64 0, .int .i64 0, .bool false, .bool false, .int .i64 0]) 6 40 Try.underlying54 hi hz0 hz1 hz2 rfl (by decide) u5 k EK rfl OW.out ⟨wr.heap.size, 0, none⟩ 1 1 ([.int .i64 lf, .int .i64 lp, .int .i64 ld, .bool lw, .bool lt, .int .i64 la] : List Value) rfl rfl NW.out ON.out MX.out BY.out HZ.out ?_; intro v1 a0 hown hg hnil; have O2 : Hid (a0.ownsRow u1.heap.size 24 6 v1 (k + 1) (EK ++ [.int .i64 lf, .int .i64 lp, .int .i64 ld, .bool lw, .bool lt, .int .i64 la])) := hown; have G2 : Hid (u1.grownBy a0 (some b)) := (grown_own GA.out OW.out hg); have T2 : Hid (IsTab a0 b TK) := (tab_own TA.out lb OW.out hg); clear hown hg hnil OW NW ON HZ MX BY c0 c1 c2 c3 c4 c5 cm; have c0 : a0.cell? ⟨b, m * 6, none⟩ = some (.int .i64 lf) := (T2.out.cell (m) (by omega) 0 _ (by rw [HL.out]; rfl) _ (by omega)); have c1 : a0.cell? ⟨b, m * 6 + 1, none⟩ = some (.int .i64 lp) := (T2.out.cell (m) (by omega) 1 _ (by rw [HL.out]; rfl) _ (by omega)); have c2 : a0.cell? ⟨b, m * 6 + 2, none⟩ = some (.int .i64 ld) := (T2.out.cell (m) (by omega) 2 _ (by rw [HL.out]; rfl) _ (by omega)); have c3 : a0.cell? ⟨b, m * 6 + 3, none⟩ = some (.bool lw) := (T2.out.cell (m) (by omega) 3 _ (by rw [HL.out]; rfl) _ (by omega)); have c4 : a0.cell? ⟨b, m * 6 + 4, none⟩ = some (.bool lt) := (T2.out.cell (m) (by omega) 4 _ (by rw [HL.out]; rfl) _ (by omega)); have c5 : a0.cell? ⟨b, m * 6 + 5, none⟩ = some (.int .i64 la) := (T2.out.cell (m) (by omega) 5 _ (by rw [HL.out]; rfl) _ (by omega)); have g0 : a0.frozen? ⟨b, m * 6, none⟩ = false := (T2.out.unfrozen _ (by omega)); have g1 : a0.frozen? ⟨b, m * 6 + 1, none⟩ = false := (T2.out.unfrozen _ (by omega)); have g2 : a0.frozen? ⟨b, m * 6 + 2, none⟩ = false := (T2.out.unfrozen _ (by omega)); have g3 : a0.frozen? ⟨b, m * 6 + 3, none⟩ = false := (T2.out.unfrozen _ (by omega)); have g4 : a0.frozen? ⟨b, m * 6 + 4, none⟩ = false := (T2.out.unfrozen _ (by omega)); have g5 : a0.frozen? ⟨b, m * 6 + 5, none⟩ = false := (T2.out.unfrozen _ (by omega)))
      go_wp2_with fail
      have T3 := T2.out.put m hm Gr.zero
      have G3 := grown_setCells b Gr.zero.enc (m * 6) a0
      simp only [World.setCells, Gr.zero, Gr.enc] at T3 G3
      have O3 := own_grown O2.out G3 lb
      have G4 := grown_trans G2.out G3
      go_roundw
      case rel => exact ⟨k + 1, by omega, by go_num, (by rw [XO.out]; exact O3), (by rw [XT.out]; exact T3), G4⟩
      case measure => simp [intOf]; omega
    · obtain rfl : k = N := by omega
      have hd : decide ((k : Int) < (k : Int)) = false := by simp
      have HK : Hid (L.take k = L) := by show _ = _; rw [← HN.out, List.take_length]
      go_wp2_with fail
      go_ret
      have e := HK.out
      rw [e] at O TT
      exact ⟨_, rfl, own_weak O.out B1.out.size, TT.out, grown_trans (grown_of_below B1.out _) GG.out⟩
end Go.Proofs.Ytenfdcjnfgjilaa
