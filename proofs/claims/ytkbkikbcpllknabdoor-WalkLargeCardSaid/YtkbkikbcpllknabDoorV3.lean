/- Boxes beside the memory; steps that come in; what is found is compared. -/
import Derived.Test.YtkbkikbcpllknabDoorV2
namespace Go.Proofs.YtkbkikbcpllknabDoor
open Go.ChangeShapes Go.WideShapes Go.ChangeAt Go.RowKit Go.Maps
set_option linter.unusedSimpArgs false
set_option linter.unusedVariables false
set_option maxRecDepth 8000

/-- a step that comes in -/
structure Sp where
  rt : Int
  ad : Int
  x : Bool
  u : Bool
  f : Bool
abbrev Sp.val (s : Sp) : Value := .agg #[.int .i64 s.rt, .int .u64 s.ad, .bool s.x, .bool s.u, .bool s.f]
theorem IsPuts.below {w w' : World} {p : Option Addr} {n : Nat} {A : Nat → Pt} (h : IsPuts w p n A) (hb : Below w.heap.size w w') : IsPuts w' p n A := fun i hi => by
  obtain ⟨b, o, e, l, c0, c1, c2, wf⟩ := h i hi
  exact ⟨b, o, e, Nat.lt_of_lt_of_le l hb.size, (hb.cell (p := ⟨b, _, none⟩) l).trans c0, (hb.cell (p := ⟨b, _, none⟩) l).trans c1, (hb.cell (p := ⟨b, _, none⟩) l).trans c2, wf⟩
theorem Play.box1 {w W : World} {K : Nat → Prop} {S : List Nat} {rb : Nat} {F : Int} {hs : List (Int × Int)} {g cap mbx xb : Nat} {M M2 : Int → Int} {n m : Nat} (h : Play w W K S rb F hs g cap mbx xb M M2 n m) (o : Obj) : ∃ K' : Nat → Prop, (∀ j, K j → K' j) ∧ K' W.heap.size ∧ Play w (W.alloc o) K' S rb F hs g cap mbx xb M M2 n m :=
  ⟨fun j => K j ∨ j = W.heap.size, fun j hj => Or.inl hj, Or.inr rfl, h.add o⟩
theorem Play.box2 {w W : World} {K : Nat → Prop} {S : List Nat} {rb : Nat} {F : Int} {hs : List (Int × Int)} {g cap mbx xb : Nat} {M M2 : Int → Int} {n m : Nat} (h : Play w W K S rb F hs g cap mbx xb M M2 n m) (o1 o2 : Obj) : ∃ K' : Nat → Prop, (∀ j, K j → K' j) ∧ K' W.heap.size ∧ K' (W.heap.size + 1) ∧ Play w ((W.alloc o1).alloc o2) K' S rb F hs g cap mbx xb M M2 n m :=
  ⟨fun j => (K j ∨ j = W.heap.size) ∨ j = (W.alloc o1).heap.size, fun j hj => Or.inl (Or.inl hj), Or.inl (Or.inr rfl), Or.inr (by rw [World.size_alloc]), (h.add o1).add o2⟩
theorem made_2 (w : World) (C D : List Value) (t s : TypeId) : Blk ((w.alloc (.cells C.toArray t)).alloc (.cells D.toArray s)) w.heap.size C t ∧ Blk ((w.alloc (.cells C.toArray t)).alloc (.cells D.toArray s)) (w.heap.size + 1) D s := by
  have h := Blk.made (w.alloc (.cells C.toArray t)) D s
  rw [World.size_alloc] at h
  exact ⟨(Blk.made w C t).below (Go.Joins.below_alloc1 _ _), h⟩
theorem eqBw (d : Nat) (a b : Bool) (W : World) : (Op.equalIn (d + 1) 4 (.bool a) (.bool b)).run Tryd.prog W = .ok (a == b) W := run_equalIn_bool W d _ a b Tryd.underlying4
theorem eqPm (d : Nat) (a b c a' b' c' : Bool) (W : World) : (Op.equalIn (d + 2) 38 (.agg #[.bool a, .bool b, .bool c]) (.agg #[.bool a', .bool b', .bool c'])).run Tryd.prog W = .ok (a == a' && (b == b' && c == c')) W := by
  rw [run_equalIn_struct W (d + 1) 38 _ _ (by kernel_rfl) (by kernel_rfl)]
  have p0 : ∀ (x y z : Value) (W : World), (part 4 #[x, y, z] 0).run Tryd.prog W = .ok x W := fun x y z W => by kernel_rfl
  have p1 : ∀ (x y z : Value) (W : World), (part 4 #[x, y, z] 1).run Tryd.prog W = .ok y W := fun x y z W => by kernel_rfl
  have p2 : ∀ (x y z : Value) (W : World), (part 4 #[x, y, z] 2).run Tryd.prog W = .ok z W := fun x y z W => by kernel_rfl
  simp only [Program.fieldsOf, Tryd.underlying38]
  simp [Op.eqFields, p0, p1, p2, eqBw]
  cases a <;> cases a' <;> cases b <;> cases b' <;> cases c <;> cases c' <;> simp
/-- what is found -/
structure Fd where
  fr : Int
  pw : Bool
  pu : Bool
  px : Bool
  g : Bool
  l : Bool
  d : Bool
deriving DecidableEq
abbrev Fd.val (s : Fd) : Value := .agg #[.int .i64 s.fr, .bool s.pw, .bool s.pu, .bool s.px, .bool s.g, .bool s.l, .bool s.d]
theorem qf0 (x0 x1 x2 x3 x4 x5 x6 : Value) (W : World) : (part 3 #[x0, x1, x2, x3, x4, x5, x6] 0).run Tryd.prog W = .ok x0 W := by kernel_rfl
theorem qf1 (x0 x1 x2 x3 x4 x5 x6 : Value) (W : World) : (part 38 #[x0, x1, x2, x3, x4, x5, x6] 1).run Tryd.prog W = .ok (.agg #[x1, x2, x3]) W := by kernel_rfl
theorem qf4 (x0 x1 x2 x3 x4 x5 x6 : Value) (W : World) : (part 4 #[x0, x1, x2, x3, x4, x5, x6] 4).run Tryd.prog W = .ok x4 W := by kernel_rfl
theorem qf5 (x0 x1 x2 x3 x4 x5 x6 : Value) (W : World) : (part 4 #[x0, x1, x2, x3, x4, x5, x6] 5).run Tryd.prog W = .ok x5 W := by kernel_rfl
theorem qf6 (x0 x1 x2 x3 x4 x5 x6 : Value) (W : World) : (part 4 #[x0, x1, x2, x3, x4, x5, x6] 6).run Tryd.prog W = .ok x6 W := by kernel_rfl
set_option maxHeartbeats 1000000 in
theorem equalFd (d : Nat) (c c' : Fd) (W : World) : (Op.equalIn (d + 3) 40 c.val c'.val).run Tryd.prog W = .ok (decide (c = c')) W := by
  rw [run_equalIn_struct W (d + 2) 40 _ _ (by kernel_rfl) (by kernel_rfl)]
  simp only [Program.fieldsOf, Tryd.underlying40]
  simp [Op.eqFields, qf0, qf1, qf4, qf5, qf6, eqIw, eqBw, eqPm]
  by_cases e : c = c'
  · subst e
    simp
  · rw [decide_eq_false e]
    obtain ⟨c0, c1, c2, c3, c4, c5, c6⟩ := c
    obtain ⟨d0, d1, d2, d3, d4, d5, d6⟩ := c'
    simp only [Fd.mk.injEq, not_and] at e
    simp only
    repeat (first | rfl | (split; (first | rfl | skip)))
    all_goals simp_all
theorem eqFd (c c' : Fd) (W : World) : (binOp .eql 40 c.val c'.val).run Tryd.prog W = .ok (.bool (decide (c = c'))) W := by
  have := equalFd 9997 c c' W
  simp only [binOp, Op.equal, Sem.run_bind]
  rw [show Op.maxDepth = 9997 + 3 from rfl, this]; rfl
theorem neFd (c c' : Fd) (W : World) : (binOp .neq 40 c.val c'.val).run Tryd.prog W = .ok (.bool (!decide (c = c'))) W := by
  have := equalFd 9997 c c' W
  simp only [binOp, Op.equal, Sem.run_bind]
  rw [show Op.maxDepth = 9997 + 3 from rfl, this]; rfl
theorem eqPerm (a b c a' b' c' : Bool) (W : World) : (binOp .eql 38 (.agg #[.bool a, .bool b, .bool c]) (.agg #[.bool a', .bool b', .bool c'])).run Tryd.prog W = .ok (.bool (a == a' && (b == b' && c == c'))) W := by
  have := eqPm 9998 a b c a' b' c' W
  simp only [binOp, Op.equal, Sem.run_bind]
  rw [show Op.maxDepth = 9998 + 2 from rfl, this]; rfl
end Go.Proofs.YtkbkikbcpllknabDoor
