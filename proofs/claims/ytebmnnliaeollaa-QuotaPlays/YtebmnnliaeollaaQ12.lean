/- Containers: the document's lists. -/
import Derived.Test.YtebmnnliaeollaaQ11
namespace Go.Proofs.Ytebmnnliaeollaa
open Go.ChangeShapes Go.WideShapes Go.ChangeAt Go.RowKit Go.Maps
set_option linter.unusedSimpArgs false
set_option linter.unusedVariables false

/-- a container of the document's -/
structure Bx where
  num : Int
  par : Int
  quota : Int
  used : Int
def Bx.enc (b : Bx) : List Value := [.int .i64 b.num, .int .i64 b.par, .int .i64 b.quota, .int .i64 b.used]
abbrev Bx.val (b : Bx) : Value := .agg #[.int .i64 b.num, .int .i64 b.par, .int .i64 b.quota, .int .i64 b.used]
def Bx.zero : Bx := ⟨0, 0, 0, 0⟩
/-- a list of them that lies at base or above -/
def IsBox (w : World) (base : Nat) (p : Option Addr) (B : List Bx) : Prop := ∀ i, i < B.length → ∃ g, p = some ⟨g, 0, none⟩ ∧ base ≤ g ∧ g < w.heap.size ∧ ∀ j x, (B.getD i Bx.zero).enc[j]? = some x → w.cell? ⟨g, i * 4 + j, none⟩ = some x
theorem IsBox.below {w w' : World} {base : Nat} {p : Option Addr} {B : List Bx} (h : IsBox w base p B) (hb : Below w.heap.size w w') : IsBox w' base p B := fun i hi => by
  obtain ⟨g, e, l1, l2, c⟩ := h i hi
  exact ⟨g, e, l1, Nat.lt_of_lt_of_le l2 hb.size, fun j x hx => (hb.cell (p := ⟨g, i * 4 + j, none⟩) l2).trans (c j x hx)⟩
theorem IsBox.grown {w w' : World} {base b : Nat} {p : Option Addr} {B : List Bx} (h : IsBox w base p B) (hb : w.grownBy w' (some b)) (hl : b < base) : IsBox w' base p B := fun i hi => by
  obtain ⟨g, e, l1, l2, c⟩ := h i hi
  exact ⟨g, e, l1, Nat.lt_of_lt_of_le l2 hb.size, fun j x hx => cell_grown hb l2 (by omega) (c j x hx)⟩
/-- the first with a number -/
def findB : List Bx → Int → Bx × Bool
  | [], _ => (Bx.zero, false)
  | b :: r, i => if b.num = i then (b, true) else findB r i
theorem findB_hit (i : Int) : ∀ (B : List Bx) (j : Nat), j < B.length → (∀ k, k < j → (B.getD k Bx.zero).num ≠ i) → (B.getD j Bx.zero).num = i → findB B i = (B.getD j Bx.zero, true)
  | [], j, h, _, _ => absurd h (Nat.not_lt_zero _)
  | b :: r, 0, _, _, e => by
    have e' : b.num = i := by simpa [List.getD] using e
    unfold findB; rw [if_pos e']; simp [List.getD]
  | b :: r, j + 1, h, n, e => by
    have n0 : b.num ≠ i := by simpa [List.getD] using n 0 (by omega)
    have e' : (r.getD j Bx.zero).num = i := by simpa [List.getD] using e
    unfold findB
    rw [if_neg n0, findB_hit i r j (by simpa using h) (fun k hk => by simpa [List.getD] using n (k + 1) (by omega)) e']
    simp [List.getD]
theorem findB_miss (i : Int) : ∀ (B : List Bx), (∀ k, k < B.length → (B.getD k Bx.zero).num ≠ i) → findB B i = (Bx.zero, false)
  | [], _ => rfl
  | b :: r, n => by
    have n0 : b.num ≠ i := by simpa [List.getD] using n 0 (by simp)
    unfold findB
    rw [if_neg n0, findB_miss i r (fun k hk => by simpa [List.getD] using n (k + 1) (by simpa using hk))]
/-- what a container's children may have -/
def lentB (i : Int) : List Bx → Int
  | [] => 0
  | b :: r => (if b.par = i then b.quota else 0) + lentB i r
theorem lentB_append (i : Int) (k : List Bx) : ∀ l, lentB i (l ++ k) = lentB i l + lentB i k
  | [] => by show lentB i k = 0 + _; omega
  | a :: l => by rw [List.cons_append, lentB, lentB, lentB_append i k l]; omega
theorem lentB_take (i : Int) (L : List Bx) (m : Nat) (h : m < L.length) : lentB i (L.take (m + 1)) = lentB i (L.take m) + (if (L.getD m Bx.zero).par = i then (L.getD m Bx.zero).quota else 0) := by
  rw [List.take_add_one, lentB_append, List.getElem?_eq_getElem h]
  have : L.getD m Bx.zero = L[m] := by rw [List.getD, List.getElem?_eq_getElem h]; rfl
  rw [this]
  show _ + (_ + 0) = _
  omega
theorem below_setCells {w x : World} (h : Below w.heap.size w x) (b o : Nat) (vs : List Value) (hb : w.heap.size ≤ b) : Below w.heap.size w (x.setCells b o vs) := by
  have g := grown_setCells b vs o x
  exact h.trans ⟨g.os, g.tape, g.output, g.size, fun k hk => g.block k (Nat.lt_of_lt_of_le hk h.size) (fun e => by have := Option.some.inj e; omega)⟩
theorem results_pair {fn : Func} {p q : Tmp} {t : TypeId} (h : fn.results = #[.cell p t, .tmp q]) (tmps : Array Value) (P : Program) (w : World) (a : Addr) (x y : Value)
    (ha : tmps.getD p undef = .pointer (some a)) (hb : tmps.getD q undef = y) (hx : (loadVar t a).run P w = .ok x w) :
    (results fn tmps).run P w = .ok (.tuple #[x, y]) w := by
  simp only [results, h]
  have e1 : ∀ W : World, (asAddr (Value.pointer (some a))).run P W = .ok a W := fun _ => rfl
  simp at ha hb
  simp [Sem.run_bind, Result.andThen, ha, hb, e1, hx]
theorem box_info : (Try.prog.info? 29).map (·.size) = some 4 := by kernel_rfl
set_option maxHeartbeats 1000000 in
theorem findB_any (base : Nat) (p : Option Addr) (c : Nat) (B : List Bx) (hB : B.length ≤ 64) (i : Int) (w : World) (h : IsBox w base p B) :
    Calls Try.prog 22 #[.slice p B.length c, .int .i64 i] w fun e w' => e = .returned (.tuple #[(findB B i).1.val, .bool (findB B i).2]) ∧ Below w.heap.size w w' := by
  obtain ⟨z, hz⟩ : ∃ z, findB B i = z := ⟨_, rfl⟩
  rw [hz]
  have HZ : Hid (findB B i = z) := hz
  have HB : Hid (IsBox w base p B) := h
  clear hz h
  go_enter Try.func22, Try.ntmps22
  go_wp2_with fail
  go_loopw [10] (fun x W => ∃ m : Nat, m ≤ B.length ∧ x = .int .i64 m ∧ Hid (IsBox W base p B) ∧ Hid (Below w.heap.size w W) ∧ Hid (W.heap[w.heap.size]? = some (.cells #[.int .i64 0, .int .i64 0, .int .i64 0, .int .i64 0] 29 (0, 0))) ∧ Hid (∀ k, k < m → (B.getD k Bx.zero).num ≠ i)) (fun x _ => B.length - (intOf x).toNat)
  case atStart => exact ⟨0, by omega, rfl, HB.out.below (Go.Joins.below_alloc1 _ _), Go.Joins.below_alloc1 _ _, own1 w _, fun k hk => absurd hk (Nat.not_lt_zero _)⟩
  case round =>
    obtain ⟨m, hm, rfl, hI, hb, hk, hno⟩ := hrel
    have lw : w.heap.size < wr.heap.size := (Array.getElem?_eq_some_iff.1 hk.out).1
    by_cases hlm : m < B.length
    · have hd : decide ((m : Int) < (B.length : Int)) = true := by simp; omega
      obtain ⟨g, rfl, g1, g2, gc⟩ := hI.out m hlm
      have HIT : Hid ((B.getD m Bx.zero).num = i → z = (B.getD m Bx.zero, true)) := fun e => by rw [← HZ.out]; exact findB_hit i B m hlm hno.out e
      have NX : Hid ((B.getD m Bx.zero).num ≠ i → ∀ k, k < m + 1 → (B.getD k Bx.zero).num ≠ i) := fun e k hk => by
        by_cases q : k = m
        · subst q; exact e
        · exact hno.out k (by omega)
      generalize B.getD m Bx.zero = bx at gc HIT NX
      obtain ⟨bn, bp, bq, bu⟩ := bx
      have y0 : wr.cell? ⟨g, m * 4, none⟩ = some (.int .i64 bn) := gc 0 _ rfl
      have y1 : wr.cell? ⟨g, m * 4 + 1, none⟩ = some (.int .i64 bp) := gc 1 _ rfl
      have y2 : wr.cell? ⟨g, m * 4 + 2, none⟩ = some (.int .i64 bq) := gc 2 _ rfl
      have y3 : wr.cell? ⟨g, m * 4 + 3, none⟩ = some (.int .i64 bu) := gc 3 _ rfl
      clear gc
      by_cases ci : bn = i
      · have e1 : (bn == i) = true := by simp [ci]
        have ez := HIT.out ci
        subst ez
        clear ci HIT NX HZ
        have BA : Hid (Below w.heap.size w (wr.alloc (.cells #[.int .i64 bn, .int .i64 bp, .int .i64 bq, .int .i64 bu] 29))) := below_new hb.out _
        have TH : Hid ((wr.alloc (.cells #[.int .i64 bn, .int .i64 bp, .int .i64 bq, .int .i64 bu] 29)).there w.heap.size 0 4) := there_block (((Go.Joins.below_alloc1 wr _).block _ lw).trans hk.out)
        go_wp2_with (refine store_pat w.heap.size 0 #[.int .i64 bn, .int .i64 bp, .int .i64 bq, .int .i64 bu] ?hx ?hy ?ht ?hi ?h1 ?rest; (case hx => rfl); (case hy => rfl); (case ht => exact TH.out); (case hi => exact box_info); (case h1 => simp [Value.oneCell']))
        try simp only [List.toList_toArray]
        have hr := run_loadVar_mid (P := Try.prog) ((wr.alloc (.cells #[.int .i64 bn, .int .i64 bp, .int .i64 bq, .int .i64 bu] 29)).setCells w.heap.size 0 [.int .i64 bn, .int .i64 bp, .int .i64 bq, .int .i64 bu]) w.heap.size 0 29 [.int .i64 bn, .int .i64 bp, .int .i64 bq, .int .i64 bu] _ (World.rangeAt_setCells_same _ w.heap.size 0 [.int .i64 bn, .int .i64 bp, .int .i64 bq, .int .i64 bu] TH.out) Try.underlying29 rfl box_info
        refine bodyPost_ret (v := .tuple #[.agg #[.int .i64 bn, .int .i64 bp, .int .i64 bq, .int .i64 bu], .bool true]) ?_ rfl ⟨rfl, below_setCells BA.out _ _ _ (Nat.le_refl _)⟩
        exact results_pair Try.results22 _ _ _ _ _ _ rfl rfl hr
      · have e1 : (bn == i) = false := by simp [ci]
        have N2 : Hid (∀ k, k < m + 1 → (B.getD k Bx.zero).num ≠ i) := NX.out ci
        clear ci NX HIT
        go_wp2_with fail
        go_roundw
        case rel => exact ⟨m + 1, by omega, by go_num, hI.out.below (Go.Joins.below_alloc1 _ _), below_new hb.out _, ((Go.Joins.below_alloc1 wr _).block _ lw).trans hk.out, N2⟩
        case measure => simp [intOf]; omega
    · obtain rfl : m = B.length := by omega
      have ez : z = (Bx.zero, false) := by rw [← HZ.out]; exact findB_miss i B hno.out
      subst ez
      have TH : Hid (wr.there w.heap.size 0 4) := there_block hk.out
      clear HZ hno
      have r0 : wr.cell? ⟨w.heap.size, 0, none⟩ = some (.int .i64 0) := Go.Joins.cell_of_block hk.out 0
      have f0 : wr.frozen? ⟨w.heap.size, 0, none⟩ = false := Go.Joins.unfrozen_of_block hk.out 0
      have r1 : wr.cell? ⟨w.heap.size, 1, none⟩ = some (.int .i64 0) := Go.Joins.cell_of_block hk.out 1
      have f1 : wr.frozen? ⟨w.heap.size, 1, none⟩ = false := Go.Joins.unfrozen_of_block hk.out 1
      have r2 : wr.cell? ⟨w.heap.size, 2, none⟩ = some (.int .i64 0) := Go.Joins.cell_of_block hk.out 2
      have f2 : wr.frozen? ⟨w.heap.size, 2, none⟩ = false := Go.Joins.unfrozen_of_block hk.out 2
      have r3 : wr.cell? ⟨w.heap.size, 3, none⟩ = some (.int .i64 0) := Go.Joins.cell_of_block hk.out 3
      have f3 : wr.frozen? ⟨w.heap.size, 3, none⟩ = false := Go.Joins.unfrozen_of_block hk.out 3
      go_wp2_with fail
      change bodyPost _ _ _ _ _ (wr.setCells w.heap.size 0 [.int .i64 0, .int .i64 0, .int .i64 0, .int .i64 0])
      have hr := run_loadVar_mid (P := Try.prog) (wr.setCells w.heap.size 0 [.int .i64 0, .int .i64 0, .int .i64 0, .int .i64 0]) w.heap.size 0 29 [.int .i64 0, .int .i64 0, .int .i64 0, .int .i64 0] _ (World.rangeAt_setCells_same _ w.heap.size 0 [.int .i64 0, .int .i64 0, .int .i64 0, .int .i64 0] TH.out) Try.underlying29 rfl box_info
      refine bodyPost_ret (v := .tuple #[.agg #[.int .i64 0, .int .i64 0, .int .i64 0, .int .i64 0], .bool false]) ?_ rfl ⟨rfl, below_setCells hb.out _ _ _ (Nat.le_refl _)⟩
      exact results_pair Try.results22 _ _ _ _ _ _ rfl rfl hr
/-- numbers of a list that fit -/
def SmallB (B : List Bx) : Prop := ∀ k, k < B.length → 0 ≤ (B.getD k Bx.zero).quota ∧ (B.getD k Bx.zero).quota ≤ 1048576
set_option maxHeartbeats 1000000 in
theorem lentB_any (base : Nat) (p : Option Addr) (c : Nat) (B : List Bx) (hB : B.length ≤ 64) (hs : SmallB B) (i : Int) (w : World) (h : IsBox w base p B) :
    Calls Try.prog 11 #[.slice p B.length c, .int .i64 i] w fun e w' => e = .returned (.int .i64 (lentB i B)) ∧ Below w.heap.size w w' := by
  obtain ⟨z, hz⟩ : ∃ z, lentB i B = z := ⟨_, rfl⟩
  rw [hz]
  have HZ : Hid (lentB i B = z) := hz
  have HB : Hid (IsBox w base p B) := h
  have HS : Hid (SmallB B) := hs
  clear hz h hs
  go_enter Try.func11, Try.ntmps11
  go_wp2_with fail
  go_loopw [5, 10] (fun y x W => ∃ (m : Nat) (s : Int), m ≤ B.length ∧ y = .int .i64 s ∧ x = .int .i64 m ∧ 0 ≤ s ∧ s ≤ (m : Int) * 1048576 ∧ Hid (IsBox W base p B) ∧ Hid (Below w.heap.size w W) ∧ Hid (s = lentB i (B.take m))) (fun _ x _ => B.length - (intOf x).toNat)
  case atStart => exact ⟨0, 0, by omega, rfl, rfl, by omega, by omega, HB, Below.refl _ _, rfl⟩
  case round =>
    obtain ⟨m, s, hm, rfl, rfl, s0, s1, hI, hb, hS⟩ := hrel
    by_cases hlm : m < B.length
    · have hd : decide ((m : Int) < (B.length : Int)) = true := by simp; omega
      obtain ⟨g, rfl, g1, g2, gc⟩ := hI.out m hlm
      have NX : Hid (lentB i (B.take (m + 1)) = s + (if (B.getD m Bx.zero).par = i then (B.getD m Bx.zero).quota else 0)) := by
        show _ = _
        rw [lentB_take i B m hlm, ← hS.out]
      have sm := HS.out m hlm
      generalize B.getD m Bx.zero = bx at gc NX sm
      obtain ⟨bn, bp, bq, bu⟩ := bx
      simp only at sm
      obtain ⟨q0, q1⟩ := sm
      have y0 : wr.cell? ⟨g, m * 4, none⟩ = some (.int .i64 bn) := gc 0 _ rfl
      have y1 : wr.cell? ⟨g, m * 4 + 1, none⟩ = some (.int .i64 bp) := gc 1 _ rfl
      have y2 : wr.cell? ⟨g, m * 4 + 2, none⟩ = some (.int .i64 bq) := gc 2 _ rfl
      have y3 : wr.cell? ⟨g, m * 4 + 3, none⟩ = some (.int .i64 bu) := gc 3 _ rfl
      clear gc
      by_cases ci : bp = i
      · have e1 : (bp == i) = true := by simp [ci]
        have N2 : Hid (s + bq = lentB i (B.take (m + 1))) := by
          have := NX.out
          rw [if_pos ci] at this; exact this.symm
        clear ci NX
        go_wp2_with fail
        go_roundw
        case rel => exact ⟨m + 1, s + bq, by omega, by go_num, by go_num, by omega, by omega, hI.out.below (Go.Joins.below_alloc1 _ _), below_new hb.out _, N2⟩
        case measure => simp [intOf]; omega
      · have e1 : (bp == i) = false := by simp [ci]
        have N2 : Hid (s = lentB i (B.take (m + 1))) := by
          have := NX.out
          rw [if_neg ci, Int.add_zero] at this; exact this.symm
        clear ci NX
        go_wp2_with fail
        go_roundw
        case rel => exact ⟨m + 1, s, by omega, rfl, by go_num, by omega, by omega, hI.out.below (Go.Joins.below_alloc1 _ _), below_new hb.out _, N2⟩
        case measure => simp [intOf]; omega
    · obtain rfl : m = B.length := by omega
      have ez : s = z := by
        have h1 := hS.out
        rw [List.take_length, HZ.out] at h1; exact h1
      subst ez
      go_wp2_with fail
      go_ret
      exact ⟨rfl, hb.out⟩
end Go.Proofs.Ytebmnnliaeollaa
