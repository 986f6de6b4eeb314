/- Containers: the document's End. -/
import Derived.Test.YtebmnnliaeollaaQ14
import Derived.Maps.AppendAt
namespace Go.Proofs.Ytebmnnliaeollaa
open Go.ChangeShapes Go.WideShapes Go.ChangeAt Go.RowKit Go.Maps
set_option linter.unusedSimpArgs false
set_option linter.unusedVariables false

def endE (B : List Bx) (i : Int) : Int := if (findB B i).2 = false ∨ i = 0 then 5 else if B.any (fun b => b.par == i) = true then 11 else if 0 < (findB B i).1.used then 11 else 0
def notN (i : Int) (b : Bx) : Bool := !(b.num == i)
theorem anyB_take (f : Bx → Bool) (B : List Bx) (m : Nat) (h : m < B.length) : (B.take (m + 1)).any f = ((B.take m).any f || f (B.getD m Bx.zero)) := by
  rw [take_next B m h, List.any_append]; simp
theorem filB_take (f : Bx → Bool) (B : List Bx) (m : Nat) (h : m < B.length) : (B.take (m + 1)).filter f = (B.take m).filter f ++ (if f (B.getD m Bx.zero) = true then [B.getD m Bx.zero] else []) := by
  rw [take_next B m h, List.filter_append]
  congr 1
  by_cases c : f (B.getD m Bx.zero) = true
  · rw [if_pos c, List.filter_cons_of_pos c]; rfl
  · rw [if_neg c, List.filter_cons_of_neg c]; rfl
theorem filB_len (f : Bx → Bool) (B : List Bx) (m : Nat) : ((B.take m).filter f).length ≤ B.length := Nat.le_trans (List.length_filter_le _ _) (by rw [List.length_take]; omega)
theorem mem_getD (B : List Bx) (m : Nat) (h : m < B.length) : B.getD m Bx.zero ∈ B := by
  rw [List.getD, List.getElem?_eq_getElem h]; exact List.getElem_mem h
/-- how End's answer is -/
def EndIs (w w' : World) (B : List Bx) (i : Int) (p : Option Addr) (c : Nat) (v : Value) (er : Int) : Prop := er = endE B i ∧ (er ≠ 0 → v = .slice p B.length c) ∧ (er = 0 → OwnB w' w.heap.size v (B.filter (notN i)))
theorem app_keep {w a0 : World} {X : Nat} {fu : Int} {v v1 : Value} {o1 o2 : Obj} (hv : ∀ j, v.ownBlock = some j → X < j) (x3 : w.cell? ⟨X, 3, none⟩ = some (.int .i64 fu)) (lx : X < w.heap.size) (hg : ((w.alloc o1).alloc o2).grownBy a0 v.ownBlock) (hblk : v1.ownBlock = v.ownBlock ∨ v1.ownBlock = some ((w.alloc o1).alloc o2).heap.size) :
    a0.cell? ⟨X, 3, none⟩ = some (.int .i64 fu) ∧ X < a0.heap.size ∧ ∀ j, v1.ownBlock = some j → X < j := by
  have c1 : ((w.alloc o1).alloc o2).cell? ⟨X, 3, none⟩ = some (.int .i64 fu) := (World.cell?_alloc_lt _ _ _ (by show X < _; rw [World.size_alloc]; omega)).trans ((World.cell?_alloc_lt _ _ _ (by exact lx)).trans x3)
  have l1 : X < ((w.alloc o1).alloc o2).heap.size := by rw [World.size_alloc, World.size_alloc]; omega
  refine ⟨(World.cell?_of_block (a := ⟨X, 3, none⟩) (hg.block X l1 (fun e => ?_))).trans c1, Nat.lt_of_lt_of_le l1 hg.size, fun j hj => ?_⟩
  · have := hv X e.symm; omega
  · rcases hblk with h | h
    · exact hv j (h.symm.trans hj)
    · rw [h] at hj; have := Option.some.inj hj; omega
set_option maxHeartbeats 2000000 in
theorem endB_any (base : Nat) (p : Option Addr) (c : Nat) (B : List Bx) (hB : B.length ≤ 64) (i : Int) (w : World) (h : IsBox w base p B) :
    Calls Try.prog 20 #[.slice p B.length c, .int .i64 i] w fun e w' => ∃ v er, e = .returned (.tuple #[v, .int .i64 er]) ∧ EndIs w w' B i p c v er ∧ Below w.heap.size w w' := by
  obtain ⟨i0, hi, hz0, hz1, hz2⟩ := info5 box_info5
  have FI : Hid (∀ W : World, IsBox W base p B → Calls Try.prog 22 #[.slice p B.length c, .int .i64 i] W fun e w' => e = .returned (.tuple #[(findB B i).1.val, .bool (findB B i).2]) ∧ Below W.heap.size W w') := fun W h => findB_any base p c B hB i W h
  have HB : Hid (IsBox w base p B) := h
  have E5 : Hid ((findB B i).2 = false ∨ i = 0 → endE B i = 5) := fun h => by unfold endE; rw [if_pos h]
  have E11 : Hid (¬ ((findB B i).2 = false ∨ i = 0) → B.any (fun b => b.par == i) = true → endE B i = 11) := fun h k => by unfold endE; rw [if_neg h, if_pos k]
  have EU : Hid (¬ ((findB B i).2 = false ∨ i = 0) → B.any (fun b => b.par == i) = false → 0 < (findB B i).1.used → endE B i = 11) := fun h k u => by unfold endE; rw [if_neg h, if_neg (by rw [k]; simp), if_pos u]
  have E0 : Hid (¬ ((findB B i).2 = false ∨ i = 0) → B.any (fun b => b.par == i) = false → ¬ 0 < (findB B i).1.used → endE B i = 0) := fun h k u => by unfold endE; rw [if_neg h, if_neg (by rw [k]; simp), if_neg u]
  clear h
  generalize findB B i = ff at FI E5 E11 EU E0
  obtain ⟨⟨fn, fp, fq, fu⟩, ok⟩ := ff
  simp only at FI
  cases ok
  · have e5 := E5.out (Or.inl rfl)
    go_enter Try.func20, Try.ntmps20
    go_wp2_with fail
    refine (FI.out _ HB.out).mono ?_
    rintro e u1 ⟨rfl, hb1⟩
    have B1 : Hid (Below w.heap.size w u1) := hb1
    clear hb1
    go_wp2_with fail
    go_returns
    exact ⟨_, _, rfl, ⟨e5.symm, fun _ => rfl, fun h => by omega⟩, below_new B1.out _⟩
  by_cases iz : i = 0
  · have e5 := E5.out (Or.inr iz)
    have eb : (i == 0) = true := by simp [iz]
    clear iz
    go_enter Try.func20, Try.ntmps20
    go_wp2_with fail
    refine (FI.out _ HB.out).mono ?_
    rintro e u1 ⟨rfl, hb1⟩
    have B1 : Hid (Below w.heap.size w u1) := hb1
    clear hb1
    go_wp2_with fail
    go_returns
    exact ⟨_, _, rfl, ⟨e5.symm, fun _ => rfl, fun h => by omega⟩, below_new B1.out _⟩
  have eb : (i == 0) = false := by simp [iz]
  have nn : ¬ (true = false ∨ i = 0) := by simp [iz]
  have F11 : Hid (B.any (fun b => b.par == i) = true → endE B i = 11) := E11.out nn
  have FU : Hid (B.any (fun b => b.par == i) = false → 0 < fu → endE B i = 11) := EU.out nn
  have F0 : Hid (B.any (fun b => b.par == i) = false → ¬ 0 < fu → endE B i = 0) := E0.out nn
  clear iz nn E5 E11 EU E0
  go_enter Try.func20, Try.ntmps20
  go_wp2_with fail
  refine (FI.out _ HB.out).mono ?_
  rintro e u1 ⟨rfl, hb1⟩
  have B1 : Hid (Below w.heap.size w u1) := hb1
  clear hb1 FI
  have lu : w.heap.size ≤ u1.heap.size := B1.out.size
  go_wp2_with fail
  go_loopw [8, 27] (fun v x W => ∃ m : Nat, m ≤ B.length ∧ x = .int .i64 m ∧ Hid (OwnB W w.heap.size v ((B.take m).filter (notN i))) ∧ Hid (Below w.heap.size w W) ∧ W.cell? ⟨u1.heap.size, 3, none⟩ = some (.int .i64 fu) ∧ u1.heap.size < W.heap.size ∧ Hid ((B.take m).any (fun b => b.par == i) = false) ∧ Hid (∀ j, v.ownBlock = some j → u1.heap.size < j)) (fun _ x _ => B.length - (intOf x).toNat)
  case atStart => exact ⟨0, by omega, rfl, OwnB.weak (by have := own_start (u1.alloc (.cells #[.int .i64 fn, .int .i64 fp, .int .i64 fq, .int .i64 fu] 29)); rw [World.size_alloc] at this; exact this) (by omega), below_new (below_new B1.out _) _, (World.cell?_alloc_lt _ _ _ (by show u1.heap.size < _; rw [World.size_alloc]; omega)).trans (by simp), (by rw [World.size_alloc, World.size_alloc]; omega), rfl, fun j hj => by have : u1.heap.size + 1 = j := Option.some.inj hj; omega⟩
  case round =>
    obtain ⟨m, hm, rfl, O, Bl, x3, lx, hno, hob⟩ := hrel
    by_cases hlm : m < B.length
    · have hd : decide ((m : Int) < (B.length : Int)) = true := by simp; omega
      obtain ⟨g, rfl, g1, g2, gc⟩ := (HB.out.below Bl.out) m hlm
      have NX : Hid ((B.take (m + 1)).filter (notN i) = (B.take m).filter (notN i) ++ (if notN i (B.getD m Bx.zero) = true then [B.getD m Bx.zero] else [])) := filB_take (notN i) B m hlm
      have NA : Hid ((B.take (m + 1)).any (fun b => b.par == i) = ((B.getD m Bx.zero).par == i)) := by
        show _ = _
        rw [anyB_take _ B m hlm, hno.out]; simp
      have AA : Hid (((B.getD m Bx.zero).par == i) = true → B.any (fun b => b.par == i) = true) := fun e => by
        rw [List.any_eq_true]; exact ⟨_, mem_getD B m hlm, e⟩
      have AL : Hid (((B.take m).filter (notN i)).length ≤ 64) := Nat.le_trans (filB_len _ B m) hB
      generalize B.getD m Bx.zero = bx at gc NX NA AA
      obtain ⟨bn, bp, bq, bu⟩ := bx
      have y0 : wr.cell? ⟨g, m * 4, none⟩ = some (.int .i64 bn) := gc 0 _ rfl
      have y1 : wr.cell? ⟨g, m * 4 + 1, none⟩ = some (.int .i64 bp) := gc 1 _ rfl
      have y2 : wr.cell? ⟨g, m * 4 + 2, none⟩ = some (.int .i64 bq) := gc 2 _ rfl
      have y3 : wr.cell? ⟨g, m * 4 + 3, none⟩ = some (.int .i64 bu) := gc 3 _ rfl
      clear gc
      by_cases cp : bp = i
      · have e1 : (bp == i) = true := by simp [cp]
        have ez := F11.out (AA.out e1)
        clear cp NX NA AA
        go_wp2_with fail
        go_returns
        exact ⟨_, _, rfl, ⟨ez.symm, fun _ => rfl, fun h => by omega⟩, below_new Bl.out _⟩
      have e1 : (bp == i) = false := by simp [cp]
      have N1 : Hid ((B.take (m + 1)).any (fun b => b.par == i) = false) := by have := NA.out; exact this.trans e1
      clear cp NA AA
      by_cases cn : bn = i
      · have e2 : (bn == i) = true := by simp [cn]
        have N2 : Hid ((B.take (m + 1)).filter (notN i) = (B.take m).filter (notN i)) := by
          show _ = _
          rw [NX.out, if_neg (by unfold notN; simp [cn]), List.append_nil]
        clear cn NX
        go_wp2_with fail
        go_roundw
        case rel => exact ⟨m + 1, by omega, by go_num, (by show OwnB _ _ _ _; rw [N2.out]; exact O.out.below (Go.Joins.below_alloc1 _ _)), below_new Bl.out _, (World.cell?_alloc_lt _ _ _ (by exact lx)).trans x3, by rw [World.size_alloc]; omega, N1, hob⟩
        case measure => simp [intOf]; omega
      · have e2 : (bn == i) = false := by simp [cn]
        have N2 : Hid ((B.take (m + 1)).filter (notN i) = (B.take m).filter (notN i) ++ [⟨bn, bp, bq, bu⟩]) := by
          show _ = _
          rw [NX.out, if_pos (by unfold notN; simp [cn])]
        clear cn NX
        generalize (B.take m).filter (notN i) = L at O AL N2
        have OW : Hid (((wr.alloc (.cells #[.int .i64 bn, .int .i64 bp, .int .i64 bq, .int .i64 bu] 29)).alloc (.cells #[.int .i64 bn, .int .i64 bp, .int .i64 bq, .int .i64 bu] 29)).ownsRow w.heap.size 29 4 u8 (L).length ((L).flatMap Bx.enc)) := own_keep O.out (Go.Joins.below_alloc2 _ _ _)
        have NW : Hid (∀ j x, ([.int .i64 bn, .int .i64 bp, .int .i64 bq, .int .i64 bu] : List Value)[j]? = some x → ((wr.alloc (.cells #[.int .i64 bn, .int .i64 bp, .int .i64 bq, .int .i64 bu] 29)).alloc (.cells #[.int .i64 bn, .int .i64 bp, .int .i64 bq, .int .i64 bu] 29)).cell? ((⟨wr.heap.size + 1, 0, none⟩ : Addr).add j) = some x) := news_cells wr _ #[.int .i64 bn, .int .i64 bp, .int .i64 bq, .int .i64 bu] 29
        have ON : Hid (∀ x ∈ ([.int .i64 bn, .int .i64 bp, .int .i64 bq, .int .i64 bu] : List Value), x.oneCell' = true) := by show ∀ x ∈ ([.int .i64 bn, .int .i64 bp, .int .i64 bq, .int .i64 bu] : List Value), x.oneCell' = true; simp [Value.oneCell']
        have HZ : Hid (w.heap.size ≤ ((wr.alloc (.cells #[.int .i64 bn, .int .i64 bp, .int .i64 bq, .int .i64 bu] 29)).alloc (.cells #[.int .i64 bn, .int .i64 bp, .int .i64 bq, .int .i64 bu] 29)).heap.size) := by show _ ≤ _; rw [World.size_alloc, World.size_alloc]; have := Bl.out.size; omega
        have MX : Hid ((L).length + 1 ≤ maxLen) := by show _ ≤ _; unfold maxLen; have := AL.out; omega
        have BY : Hid (((L).length + 1) * 32 ≤ 140737488355328) := by show _ ≤ _; have := AL.out; omega
        go_wp2_with (at_builtin; refine wpList_append_own_at _ rfl _ _ 30 rfl w.heap.size 29 i0 zbox 4 32 Try.underlying30 hi hz0 hz1 hz2 rfl (by decide) u8 ((L).length) ((L).flatMap Bx.enc) rfl OW.out ⟨wr.heap.size + 1, 0, none⟩ 1 1 ([.int .i64 bn, .int .i64 bp, .int .i64 bq, .int .i64 bu] : List Value) rfl rfl NW.out ON.out MX.out BY.out HZ.out ?_; intro v1 a0 hown hg hnil hblk; have O1 : Hid (a0.ownsRow w.heap.size 29 4 v1 ((L).length + 1) (((L).flatMap Bx.enc) ++ [.int .i64 bn, .int .i64 bp, .int .i64 bq, .int .i64 bu])) := hown; have B1 : Hid (Below w.heap.size w a0) := below_grown (Bl.out.trans (Go.Joins.below_le (Go.Joins.below_alloc2 wr _ _) Bl.out.size)) OW.out hg; have X1 : Hid (a0.cell? ⟨u1.heap.size, 3, none⟩ = some (.int .i64 fu) ∧ u1.heap.size < a0.heap.size ∧ ∀ j, v1.ownBlock = some j → u1.heap.size < j) := app_keep hob.out x3 lx hg hblk; clear hown hg hnil hblk OW NW ON HZ MX BY)
        go_wp2_with fail
        go_roundw
        case rel => exact ⟨m + 1, by omega, by go_num, (by show OwnB _ _ _ _; rw [N2.out]; exact OwnB.next O1.out), B1, X1.out.1, X1.out.2.1, N1, X1.out.2.2⟩
        case measure => simp [intOf]; omega
    · obtain rfl : m = B.length := by omega
      have na : B.any (fun b => b.par == i) = false := by
        have := hno.out
        rw [List.take_length] at this; exact this
      have OF : Hid (OwnB wr w.heap.size u8 (B.filter (notN i))) := by
        have := O.out
        rw [List.take_length] at this; exact this
      clear O hno
      by_cases cu : 0 < fu
      · have e1 : decide (0 < fu) = true := by simp [cu]
        have ez := FU.out na cu
        clear na cu
        go_wp2_with fail
        go_returns
        exact ⟨_, _, rfl, ⟨ez.symm, fun _ => rfl, fun h => by omega⟩, Bl.out⟩
      · have e1 : decide (0 < fu) = false := by simp; omega
        have ez := F0.out na (by omega)
        clear na cu
        go_wp2_with fail
        go_returns
        exact ⟨_, _, rfl, ⟨ez.symm, fun h => absurd rfl h, fun _ => OF.out⟩, Bl.out⟩
end Go.Proofs.Ytebmnnliaeollaa
