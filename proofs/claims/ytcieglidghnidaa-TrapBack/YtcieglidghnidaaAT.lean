/- A state as the document's; blocks that are written whole. -/
import Derived.Test.YtcieglidghnidaaAS
namespace Go.Proofs.Ytcieglidghnidaa
open Go.ChangeShapes Go.WideShapes Go.ChangeAt Go.RowKit Go.Maps
set_option linter.unusedSimpArgs false
set_option linter.unusedVariables false

set_option maxHeartbeats 4000000 in
theorem told_st (r0 r1 r2 r3 t en : Int) (i : Bool) (a c s0 s1 s2 s3 : Int) (w : World) : Calls Try.prog 7 #[(St.mk r0 r1 r2 r3 t en i a c s0 s1 s2 s3).val] w fun e w' => e = .returned (St.mk r0 r1 r2 r3 t en i a c s0 s1 s2 s3).val ∧ Below w.heap.size w w' := by
  go_enter Try.func7, Try.ntmps7
  go_wp2_with fail
  go_returns
  exact ⟨rfl, by repeat (first | exact Below.refl _ _ | refine below_new ?_ _ | refine below_drew ?_)⟩
def setL (C : List Value) (o : Nat) : List Value → List Value
  | [] => C
  | v :: r => setL (C.set o v) (o + 1) r
theorem Blk.scsame {w : World} {b : Nat} {C : List Value} {t : TypeId} (h : Blk w b C t) : ∀ (vs : List Value) (o : Nat), Blk (w.setCells b o vs) b (setL C o vs) t := fun vs => by
  induction vs generalizing w C with
  | nil => intro o; exact h
  | cons v r ih => intro o; rw [World.setCells]; exact ih (h.set o v) _
theorem below_scs {n c : Nat} {w X : World} (h : Below n w X) (l : n ≤ c) : ∀ (vs : List Value) (o : Nat), Below n w (X.setCells c o vs) := fun vs => by
  induction vs generalizing X with
  | nil => intro o; exact h
  | cons v r ih => intro o; rw [World.setCells]; exact ih (h.setCell (p := ⟨c, o, none⟩) l v) _
theorem made5_3 (w : World) (O P Q : Obj) (D E : List Value) (s r : TypeId) : Blk (((((w.alloc O).alloc P).alloc Q).alloc (.cells D.toArray s)).alloc (.cells E.toArray r)) (w.heap.size + 1 + 1 + 1) D s := by
  have h := made2_0 (((w.alloc O).alloc P).alloc Q) D E s r
  simpa only [World.size_alloc] using h
theorem made5_4 (w : World) (O P Q : Obj) (D E : List Value) (s r : TypeId) : Blk (((((w.alloc O).alloc P).alloc Q).alloc (.cells D.toArray s)).alloc (.cells E.toArray r)) (w.heap.size + 1 + 1 + 1 + 1) E r := by
  have h := made2_1 (((w.alloc O).alloc P).alloc Q) D E s r
  simpa only [World.size_alloc] using h
theorem results_three {fn : Func} {p q r : Tmp} {t u : TypeId} (h : fn.results = #[.cell p t, .cell q u, .tmp r]) (tmps : Array Value) (P : Program) (w : World) (a b : Addr) (x y z : Value)
    (ha : tmps.getD p undef = .pointer (some a)) (hb : tmps.getD q undef = .pointer (some b)) (hc : tmps.getD r undef = z) (hx : (loadVar t a).run P w = .ok x w) (hy : (loadVar u b).run P w = .ok y w) :
    (results fn tmps).run P w = .ok (.tuple #[x, y, z]) w := by
  simp only [results, h]
  have e1 : ∀ (c : Addr) (W : World), (asAddr (Value.pointer (some c))).run P W = .ok c W := fun _ _ => rfl
  simp at ha hb hc
  simp [Sem.run_bind, Result.andThen, ha, hb, hc, e1, hx, hy]
theorem there_below {W W' : World} {b o n : Nat} (h : W.there b o n) (hb : Below W.heap.size W W') (l : b < W.heap.size) : W'.there b o n := fun j hj => by
  obtain ⟨h1, h2⟩ := h j hj
  exact ⟨by rw [hb.cell (p := ⟨b, o + j, none⟩) l]; exact h1, by rw [hb.frozen (p := ⟨b, o + j, none⟩) l]; exact h2⟩
theorem size_scs (W : World) (c : Nat) : ∀ (vs : List Value) (o : Nat), (W.setCells c o vs).heap.size = W.heap.size := fun vs => by
  induction vs generalizing W with
  | nil => intro o; rfl
  | cons v r ih =>
    intro o
    rw [World.setCells, ih]
    simp
theorem sx_info : (Try.prog.info? 31).map (·.size) = some 13 := by kernel_rfl
abbrev St.cells (s : St) : List Value := [.int .u64 s.r0, .int .u64 s.r1, .int .u64 s.r2, .int .u64 s.r3, .int .i64 s.told, .int .u64 s.en, .bool s.inn, .int .u64 s.fa, .int .i64 s.fc, .int .u64 s.s0, .int .u64 s.s1, .int .u64 s.s2, .int .u64 s.s3]
theorem wanted_mp {c : Prop} [Decidable c] {a b : Prop} (h : c) (ha : a) : if c then a else b := by rw [if_pos h]; exact ha
end Go.Proofs.Ytcieglidghnidaa
