/- The translations' store: Lines, walked. -/
import Derived.Test.YtihedjlcjkbjfaaT7
import Derived.Great.Walk
namespace Go.Proofs.Ytihedjlcjkbjfaa
open Go.ChangeShapes Go.WideShapes Go.ChangeAt Go.RowKit Go.Maps
set_option linter.unusedSimpArgs false
set_option linter.unusedVariables false
set_option maxRecDepth 8000

theorem index_pat {P : Program} {ops : Array Oper} {rest : List Oper} {ty t : TypeId} {x y : Operand} {q : Tmp} {pos : String} {af : Array Edge} {a : Act} {w : World} {Q : Exit → Act → World → Prop} (u i v : Value) (hx : a.eval x = u) (hy : a.eval y = i)
    (hr : (Instr.index ty u i).run P w = .ok v w)
    (h : wpList P ops Q rest (a.put (some q) v) w) : wpList P ops Q ({ dst := some q, op := .index ty x y, type := t, pos := pos, after := af, guard := none } :: rest) a w := by
  refine wpList_plain rfl fun K hK => ?_
  unfold Oper.wp execOp
  simp only [hx, hy, Sem.run_bind, hr, Result.andThen_ok, Sem.run_pure, Oper.upon]
  exact hK _ _ h
theorem range_at {w : World} {b : Nat} {cs : List Value} {v : Value} (h : w.rangeAt b 0 cs) (i : Nat) (hi : cs[i]? = some v) : w.cell? ⟨b, i, none⟩ = some v := by have := h i v hi; rwa [Nat.zero_add] at this
theorem zero27 (W : World) : (zeroValue 55).run Try.prog W = .ok (.agg #[.bool false, .int .i64 0, .int .i64 0, .int .i64 0, .bool false, .bool false, .bool false, .bool false, .bool false, .bool false, .int .i64 0, .int .i64 0, .int .i64 0, .bool false, .bool false, .bool false, .bool false, .bool false]) W := by kernel_rfl
theorem below_grown {w U a0 : World} {v : Value} {base n e s : Nat} {xs : List Value} (B : Below w.heap.size w U) (O : U.ownsRow w.heap.size e s v n xs) (hg : U.grownBy a0 v.ownBlock) : Below w.heap.size w a0 :=
  B.grown hg B.size (fun j ej => own_base O j ej)
set_option maxHeartbeats 2000000 in
theorem lines_any (b : Nat) (T : Nat → Ln) (w : World) (h : IsTlb w b T) :
    Calls Try.prog 23 #[.pointer (some ⟨b, 0, none⟩)] w fun e w' => ∃ v, e = .returned v ∧ w'.ownsRow w.heap.size 54 9 v (linesT T 16).length ((linesT T 16).flatMap Ln.enc) ∧ Below w.heap.size w w' := by
  obtain ⟨i0, hi, hz0, hz1, hz2⟩ := info5 line_info5
  have RG : Hid (w.rangeAt b 0 (flatT T)) := flat_range h
  have ZV := zero27
  have IX0 := ix0
  have IX1 := ix1
  have IK : ∀ (k : Nat), k < 8 → ∀ (W : World), (Instr.index 56 (.agg (flatT T).toArray) (.int .i64 k)).run Try.prog W = .ok (.agg #[.bool (T (2 * k)).v, .int .i64 (T (2 * k)).t, .int .i64 (T (2 * k)).p, .int .i64 (T (2 * k)).f, .bool (T (2 * k)).w, .bool (T (2 * k)).u, .bool (T (2 * k)).x, .bool (T (2 * k)).g, .bool (T (2 * k)).d, .bool (T (2 * k + 1)).v, .int .i64 (T (2 * k + 1)).t, .int .i64 (T (2 * k + 1)).p, .int .i64 (T (2 * k + 1)).f, .bool (T (2 * k + 1)).w, .bool (T (2 * k + 1)).u, .bool (T (2 * k + 1)).x, .bool (T (2 * k + 1)).g, .bool (T (2 * k + 1)).d]) W := fun k hk W => ixk T k hk W
  have FL : Hid ((flatT T).length = 144) := rfl
  have fl : (flatT T).length = 144 := rfl
  clear h
  generalize hf : flatT T = FT at RG IK FL fl
  clear hf
  go_enter Try.func23, Try.ntmps23
  go_wp2_with (refine load_pat b 0 FT (.array 8 55) ?hx ?hc ?hu ?hd ?hi ?rest; (case hx => rfl); (case hc => exact RG.out); (case hu => exact Try.underlying56); (case hd => rfl); (case hi => rw [FL.out]; exact all_info))
  go_loopw [3, 12] (fun v x W => ∃ k : Nat, k ≤ 8 ∧ x = .int .i64 k ∧ Hid (W.ownsRow w.heap.size 54 9 v (linesT T (2 * k)).length ((linesT T (2 * k)).flatMap Ln.enc)) ∧ Hid (Below w.heap.size w W)) (fun _ x _ => 8 - (intOf x).toNat)
  case atStart => exact ⟨0, by omega, rfl, ⟨rfl, Or.inl ⟨rfl, rfl⟩⟩, Below.refl _ _⟩
  case round =>
    obtain ⟨k, hk, rfl, O, B⟩ := hrel
    by_cases hlt : k < 8
    · have hd : decide ((k : Int) < 8) = true := by simp; omega
      have LN : Hid ((linesT T (2 * k)).length ≤ 16) := Nat.le_trans (lines_len T (2 * k)) (by omega)
      have ik := IK k hlt
      clear IK RG
      obtain ⟨l0, h0⟩ : ∃ l, T (2 * k) = l := ⟨_, rfl⟩
      obtain ⟨l1, h1⟩ : ∃ l, T (2 * k + 1) = l := ⟨_, rfl⟩
      rw [h0, h1] at ik
      have H0 : Hid (T (2 * k) = l0) := h0
      have H1 : Hid (T (2 * k + 1) = l1) := h1
      clear h0 h1

      obtain ⟨b0, t0, p0, q0, x0, y0, z0, g0, d0⟩ := l0
      obtain ⟨b1, t1, p1, q1, x1, y1, z1, g1, d1⟩ := l1
      simp only at ik
      have HK : Hid _ := ik
      clear ik
      cases b0 <;> cases b1
      · go_wp2_with fail
        rw [HK.out]
        simp only [Result.andThen_ok, Oper.upon]
        refine (‹∀ (a : Act) (w : World), wpList _ _ _ _ a w → _› _ _ ?_)
        refine Go.Great.wpList_allocTo rfl (some 5) rfl (.pointer (some ⟨wr.heap.size, 0, none⟩)) (.cells #[.bool false, .int .i64 0, .int .i64 0, .int .i64 0, .bool false, .bool false, .bool false, .bool false, .bool false, .bool false, .int .i64 0, .int .i64 0, .int .i64 0, .bool false, .bool false, .bool false, .bool false, .bool false] 55) (by kernel_rfl) ?_
        simp only [Act.put, List.setIfInBounds_toArray, List.set_cons_zero, List.set_cons_succ]
        have TH : (wr.alloc (.cells #[.bool false, .int .i64 0, .int .i64 0, .int .i64 0, .bool false, .bool false, .bool false, .bool false, .bool false, .bool false, .int .i64 0, .int .i64 0, .int .i64 0, .bool false, .bool false, .bool false, .bool false, .bool false] 55)).there wr.heap.size 0 18 := there_block (own1 wr _)
        refine store_pat wr.heap.size 0 #[.bool false, .int .i64 t0, .int .i64 p0, .int .i64 q0, .bool x0, .bool y0, .bool z0, .bool g0, .bool d0, .bool false, .int .i64 t1, .int .i64 p1, .int .i64 q1, .bool x1, .bool y1, .bool z1, .bool g1, .bool d1] rfl rfl TH set_info (by simp [Value.oneCell']) ?_
        have R : Hid (((wr.alloc (.cells #[.bool false, .int .i64 0, .int .i64 0, .int .i64 0, .bool false, .bool false, .bool false, .bool false, .bool false, .bool false, .int .i64 0, .int .i64 0, .int .i64 0, .bool false, .bool false, .bool false, .bool false, .bool false] 55)).setCells wr.heap.size 0 [.bool false, .int .i64 t0, .int .i64 p0, .int .i64 q0, .bool x0, .bool y0, .bool z0, .bool g0, .bool d0, .bool false, .int .i64 t1, .int .i64 p1, .int .i64 q1, .bool x1, .bool y1, .bool z1, .bool g1, .bool d1]).rangeAt wr.heap.size 0 [.bool false, .int .i64 t0, .int .i64 p0, .int .i64 q0, .bool x0, .bool y0, .bool z0, .bool g0, .bool d0, .bool false, .int .i64 t1, .int .i64 p1, .int .i64 q1, .bool x1, .bool y1, .bool z1, .bool g1, .bool d1]) := World.rangeAt_setCells_same _ wr.heap.size 0 _ TH
        have BW : Below wr.heap.size wr ((wr.alloc (.cells #[.bool false, .int .i64 0, .int .i64 0, .int .i64 0, .bool false, .bool false, .bool false, .bool false, .bool false, .bool false, .int .i64 0, .int .i64 0, .int .i64 0, .bool false, .bool false, .bool false, .bool false, .bool false] 55)).setCells wr.heap.size 0 [.bool false, .int .i64 t0, .int .i64 p0, .int .i64 q0, .bool x0, .bool y0, .bool z0, .bool g0, .bool d0, .bool false, .int .i64 t1, .int .i64 p1, .int .i64 q1, .bool x1, .bool y1, .bool z1, .bool g1, .bool d1]) := below_setCells (Go.Joins.below_alloc1 wr _) _ _ _ (Nat.le_refl _)
        have O0 : Hid (((wr.alloc (.cells #[.bool false, .int .i64 0, .int .i64 0, .int .i64 0, .bool false, .bool false, .bool false, .bool false, .bool false, .bool false, .int .i64 0, .int .i64 0, .int .i64 0, .bool false, .bool false, .bool false, .bool false, .bool false] 55)).setCells wr.heap.size 0 [.bool false, .int .i64 t0, .int .i64 p0, .int .i64 q0, .bool x0, .bool y0, .bool z0, .bool g0, .bool d0, .bool false, .int .i64 t1, .int .i64 p1, .int .i64 q1, .bool x1, .bool y1, .bool z1, .bool g1, .bool d1]).ownsRow w.heap.size 54 9 u3 (linesT T (2 * k)).length ((linesT T (2 * k)).flatMap Ln.enc)) := own_keep O.out BW
        have B0 : Hid (Below w.heap.size w ((wr.alloc (.cells #[.bool false, .int .i64 0, .int .i64 0, .int .i64 0, .bool false, .bool false, .bool false, .bool false, .bool false, .bool false, .int .i64 0, .int .i64 0, .int .i64 0, .bool false, .bool false, .bool false, .bool false, .bool false] 55)).setCells wr.heap.size 0 [.bool false, .int .i64 t0, .int .i64 p0, .int .i64 q0, .bool x0, .bool y0, .bool z0, .bool g0, .bool d0, .bool false, .int .i64 t1, .int .i64 p1, .int .i64 q1, .bool x1, .bool y1, .bool z1, .bool g1, .bool d1])) := below_then B.out BW
        clear TH BW HK
        simp only [List.toList_toArray]
        generalize (wr.alloc (.cells #[.bool false, .int .i64 0, .int .i64 0, .int .i64 0, .bool false, .bool false, .bool false, .bool false, .bool false, .bool false, .int .i64 0, .int .i64 0, .int .i64 0, .bool false, .bool false, .bool false, .bool false, .bool false] 55)).setCells wr.heap.size 0 [.bool false, .int .i64 t0, .int .i64 p0, .int .i64 q0, .bool x0, .bool y0, .bool z0, .bool g0, .bool d0, .bool false, .int .i64 t1, .int .i64 p1, .int .i64 q1, .bool x1, .bool y1, .bool z1, .bool g1, .bool d1] = U0 at R O0 B0 ⊢
        go_step
        simp only [Exit.then]
        refine (‹∀ (a : Act) (w : World), Code.wp _ _ _ a w → _› _ _ ?_)
        go_step
        go_step
        refine load_pat wr.heap.size 0 [.bool false, .int .i64 t0, .int .i64 p0, .int .i64 q0, .bool x0, .bool y0, .bool z0, .bool g0, .bool d0, .bool false, .int .i64 t1, .int .i64 p1, .int .i64 q1, .bool x1, .bool y1, .bool z1, .bool g1, .bool d1] (.array 2 54) rfl R.out Try.underlying55 rfl set_info ?_
        simp only [Act.put, List.setIfInBounds_toArray, List.set_cons_zero, List.set_cons_succ]
        clear R
        go_wp2_with fail
        refine wp_loop_rounds 3 ?_
        rw [rounds_succ]
        go_wp2_with fail
        have O1 : Hid ((U0.alloc (.cells #[.bool false, .int .i64 t0, .int .i64 p0, .int .i64 q0, .bool x0, .bool y0, .bool z0, .bool g0, .bool d0] 54)).ownsRow w.heap.size 54 9 u3 ((linesT T (2 * k)).length) ((linesT T (2 * k)).flatMap Ln.enc)) := own_keep O0.out (Go.Joins.below_alloc1 _ _)
        have B1 : Hid (Below w.heap.size w (U0.alloc (.cells #[.bool false, .int .i64 t0, .int .i64 p0, .int .i64 q0, .bool x0, .bool y0, .bool z0, .bool g0, .bool d0] 54))) := below_new B0.out _
        generalize U0.alloc (.cells #[.bool false, .int .i64 t0, .int .i64 p0, .int .i64 q0, .bool x0, .bool y0, .bool z0, .bool g0, .bool d0] 54) = a0 at O1 B1 ⊢
        rw [rounds_succ]
        go_wp2_with fail
        have O2 : Hid ((a0.alloc (.cells #[.bool false, .int .i64 t1, .int .i64 p1, .int .i64 q1, .bool x1, .bool y1, .bool z1, .bool g1, .bool d1] 54)).ownsRow w.heap.size 54 9 u3 ((linesT T (2 * k)).length) ((linesT T (2 * k)).flatMap Ln.enc)) := own_keep O1.out (Go.Joins.below_alloc1 _ _)
        have B2 : Hid (Below w.heap.size w (a0.alloc (.cells #[.bool false, .int .i64 t1, .int .i64 p1, .int .i64 q1, .bool x1, .bool y1, .bool z1, .bool g1, .bool d1] 54))) := below_new B1.out _
        generalize a0.alloc (.cells #[.bool false, .int .i64 t1, .int .i64 p1, .int .i64 q1, .bool x1, .bool y1, .bool z1, .bool g1, .bool d1] 54) = a1 at O2 B2 ⊢
        have OF : Hid (a1.ownsRow w.heap.size 54 9 u3 (linesT T (2 * (k + 1))).length ((linesT T (2 * (k + 1))).flatMap Ln.enc)) := by
          have e : linesT T (2 * (k + 1)) = linesT T (2 * k) := by
            rw [show 2 * (k + 1) = 2 * k + 1 + 1 by omega, lines_no T (2 * k + 1) (by rw [H1.out]), lines_no T (2 * k) (by rw [H0.out])]
          have := O2.out
          show World.ownsRow _ _ _ _ _ _ _
          rw [e]
          try simp only [List.length_append, List.length_cons, List.length_nil, List.flatMap_append, List.flatMap_cons, List.flatMap_nil, List.append_nil] at this ⊢
          exact this
        rw [rounds_succ]
        go_wp2_with fail
        go_roundw
        case rel => exact ⟨k + 1, by omega, by go_num, OF, B2⟩
        case measure => simp [intOf]; omega
      · go_wp2_with fail
        rw [HK.out]
        simp only [Result.andThen_ok, Oper.upon]
        refine (‹∀ (a : Act) (w : World), wpList _ _ _ _ a w → _› _ _ ?_)
        refine Go.Great.wpList_allocTo rfl (some 5) rfl (.pointer (some ⟨wr.heap.size, 0, none⟩)) (.cells #[.bool false, .int .i64 0, .int .i64 0, .int .i64 0, .bool false, .bool false, .bool false, .bool false, .bool false, .bool false, .int .i64 0, .int .i64 0, .int .i64 0, .bool false, .bool false, .bool false, .bool false, .bool false] 55) (by kernel_rfl) ?_
        simp only [Act.put, List.setIfInBounds_toArray, List.set_cons_zero, List.set_cons_succ]
        have TH : (wr.alloc (.cells #[.bool false, .int .i64 0, .int .i64 0, .int .i64 0, .bool false, .bool false, .bool false, .bool false, .bool false, .bool false, .int .i64 0, .int .i64 0, .int .i64 0, .bool false, .bool false, .bool false, .bool false, .bool false] 55)).there wr.heap.size 0 18 := there_block (own1 wr _)
        refine store_pat wr.heap.size 0 #[.bool false, .int .i64 t0, .int .i64 p0, .int .i64 q0, .bool x0, .bool y0, .bool z0, .bool g0, .bool d0, .bool true, .int .i64 t1, .int .i64 p1, .int .i64 q1, .bool x1, .bool y1, .bool z1, .bool g1, .bool d1] rfl rfl TH set_info (by simp [Value.oneCell']) ?_
        have R : Hid (((wr.alloc (.cells #[.bool false, .int .i64 0, .int .i64 0, .int .i64 0, .bool false, .bool false, .bool false, .bool false, .bool false, .bool false, .int .i64 0, .int .i64 0, .int .i64 0, .bool false, .bool false, .bool false, .bool false, .bool false] 55)).setCells wr.heap.size 0 [.bool false, .int .i64 t0, .int .i64 p0, .int .i64 q0, .bool x0, .bool y0, .bool z0, .bool g0, .bool d0, .bool true, .int .i64 t1, .int .i64 p1, .int .i64 q1, .bool x1, .bool y1, .bool z1, .bool g1, .bool d1]).rangeAt wr.heap.size 0 [.bool false, .int .i64 t0, .int .i64 p0, .int .i64 q0, .bool x0, .bool y0, .bool z0, .bool g0, .bool d0, .bool true, .int .i64 t1, .int .i64 p1, .int .i64 q1, .bool x1, .bool y1, .bool z1, .bool g1, .bool d1]) := World.rangeAt_setCells_same _ wr.heap.size 0 _ TH
        have BW : Below wr.heap.size wr ((wr.alloc (.cells #[.bool false, .int .i64 0, .int .i64 0, .int .i64 0, .bool false, .bool false, .bool false, .bool false, .bool false, .bool false, .int .i64 0, .int .i64 0, .int .i64 0, .bool false, .bool false, .bool false, .bool false, .bool false] 55)).setCells wr.heap.size 0 [.bool false, .int .i64 t0, .int .i64 p0, .int .i64 q0, .bool x0, .bool y0, .bool z0, .bool g0, .bool d0, .bool true, .int .i64 t1, .int .i64 p1, .int .i64 q1, .bool x1, .bool y1, .bool z1, .bool g1, .bool d1]) := below_setCells (Go.Joins.below_alloc1 wr _) _ _ _ (Nat.le_refl _)
        have O0 : Hid (((wr.alloc (.cells #[.bool false, .int .i64 0, .int .i64 0, .int .i64 0, .bool false, .bool false, .bool false, .bool false, .bool false, .bool false, .int .i64 0, .int .i64 0, .int .i64 0, .bool false, .bool false, .bool false, .bool false, .bool false] 55)).setCells wr.heap.size 0 [.bool false, .int .i64 t0, .int .i64 p0, .int .i64 q0, .bool x0, .bool y0, .bool z0, .bool g0, .bool d0, .bool true, .int .i64 t1, .int .i64 p1, .int .i64 q1, .bool x1, .bool y1, .bool z1, .bool g1, .bool d1]).ownsRow w.heap.size 54 9 u3 (linesT T (2 * k)).length ((linesT T (2 * k)).flatMap Ln.enc)) := own_keep O.out BW
        have B0 : Hid (Below w.heap.size w ((wr.alloc (.cells #[.bool false, .int .i64 0, .int .i64 0, .int .i64 0, .bool false, .bool false, .bool false, .bool false, .bool false, .bool false, .int .i64 0, .int .i64 0, .int .i64 0, .bool false, .bool false, .bool false, .bool false, .bool false] 55)).setCells wr.heap.size 0 [.bool false, .int .i64 t0, .int .i64 p0, .int .i64 q0, .bool x0, .bool y0, .bool z0, .bool g0, .bool d0, .bool true, .int .i64 t1, .int .i64 p1, .int .i64 q1, .bool x1, .bool y1, .bool z1, .bool g1, .bool d1])) := below_then B.out BW
        clear TH BW HK
        simp only [List.toList_toArray]
        generalize (wr.alloc (.cells #[.bool false, .int .i64 0, .int .i64 0, .int .i64 0, .bool false, .bool false, .bool false, .bool false, .bool false, .bool false, .int .i64 0, .int .i64 0, .int .i64 0, .bool false, .bool false, .bool false, .bool false, .bool false] 55)).setCells wr.heap.size 0 [.bool false, .int .i64 t0, .int .i64 p0, .int .i64 q0, .bool x0, .bool y0, .bool z0, .bool g0, .bool d0, .bool true, .int .i64 t1, .int .i64 p1, .int .i64 q1, .bool x1, .bool y1, .bool z1, .bool g1, .bool d1] = U0 at R O0 B0 ⊢
        go_step
        simp only [Exit.then]
        refine (‹∀ (a : Act) (w : World), Code.wp _ _ _ a w → _› _ _ ?_)
        go_step
        go_step
        refine load_pat wr.heap.size 0 [.bool false, .int .i64 t0, .int .i64 p0, .int .i64 q0, .bool x0, .bool y0, .bool z0, .bool g0, .bool d0, .bool true, .int .i64 t1, .int .i64 p1, .int .i64 q1, .bool x1, .bool y1, .bool z1, .bool g1, .bool d1] (.array 2 54) rfl R.out Try.underlying55 rfl set_info ?_
        simp only [Act.put, List.setIfInBounds_toArray, List.set_cons_zero, List.set_cons_succ]
        clear R
        go_wp2_with fail
        refine wp_loop_rounds 3 ?_
        rw [rounds_succ]
        go_wp2_with fail
        have O1 : Hid ((U0.alloc (.cells #[.bool false, .int .i64 t0, .int .i64 p0, .int .i64 q0, .bool x0, .bool y0, .bool z0, .bool g0, .bool d0] 54)).ownsRow w.heap.size 54 9 u3 ((linesT T (2 * k)).length) ((linesT T (2 * k)).flatMap Ln.enc)) := own_keep O0.out (Go.Joins.below_alloc1 _ _)
        have B1 : Hid (Below w.heap.size w (U0.alloc (.cells #[.bool false, .int .i64 t0, .int .i64 p0, .int .i64 q0, .bool x0, .bool y0, .bool z0, .bool g0, .bool d0] 54))) := below_new B0.out _
        generalize U0.alloc (.cells #[.bool false, .int .i64 t0, .int .i64 p0, .int .i64 q0, .bool x0, .bool y0, .bool z0, .bool g0, .bool d0] 54) = a0 at O1 B1 ⊢
        rw [rounds_succ]
        have OW : Hid ((((a0.alloc (.cells #[.bool true, .int .i64 t1, .int .i64 p1, .int .i64 q1, .bool x1, .bool y1, .bool z1, .bool g1, .bool d1] 54)).alloc (.cells #[.bool true, .int .i64 t1, .int .i64 p1, .int .i64 q1, .bool x1, .bool y1, .bool z1, .bool g1, .bool d1] 54))).ownsRow w.heap.size 54 9 u3 ((linesT T (2 * k)).length) ((linesT T (2 * k)).flatMap Ln.enc)) := own_keep O1.out (Go.Joins.below_alloc2 _ _ _)
        have NW : Hid (∀ j x, ([.bool true, .int .i64 t1, .int .i64 p1, .int .i64 q1, .bool x1, .bool y1, .bool z1, .bool g1, .bool d1] : List Value)[j]? = some x → ((a0.alloc (.cells #[.bool true, .int .i64 t1, .int .i64 p1, .int .i64 q1, .bool x1, .bool y1, .bool z1, .bool g1, .bool d1] 54)).alloc (.cells #[.bool true, .int .i64 t1, .int .i64 p1, .int .i64 q1, .bool x1, .bool y1, .bool z1, .bool g1, .bool d1] 54)).cell? ((⟨a0.heap.size + 1, 0, none⟩ : Addr).add j) = some x) := news_cells a0 _ #[.bool true, .int .i64 t1, .int .i64 p1, .int .i64 q1, .bool x1, .bool y1, .bool z1, .bool g1, .bool d1] 54
        have ON : Hid (∀ x ∈ ([.bool true, .int .i64 t1, .int .i64 p1, .int .i64 q1, .bool x1, .bool y1, .bool z1, .bool g1, .bool d1] : List Value), x.oneCell' = true) := by show ∀ x ∈ ([.bool true, .int .i64 t1, .int .i64 p1, .int .i64 q1, .bool x1, .bool y1, .bool z1, .bool g1, .bool d1] : List Value), x.oneCell' = true; simp [Value.oneCell']
        have HZ : Hid (w.heap.size ≤ ((a0.alloc (.cells #[.bool true, .int .i64 t1, .int .i64 p1, .int .i64 q1, .bool x1, .bool y1, .bool z1, .bool g1, .bool d1] 54)).alloc (.cells #[.bool true, .int .i64 t1, .int .i64 p1, .int .i64 q1, .bool x1, .bool y1, .bool z1, .bool g1, .bool d1] 54)).heap.size) := by show _ ≤ _; rw [World.size_alloc, World.size_alloc]; have := B1.out.size; omega
        have MX : Hid ((linesT T (2 * k)).length + 1 ≤ maxLen) := by show _ ≤ _; unfold maxLen; have := LN.out; omega
        have BY : Hid (((linesT T (2 * k)).length + 1) * 40 ≤ 140737488355328) := by show _ ≤ _; have := LN.out; omega
        go_wp2_with (at_builtin; refine wpList_append_own _ rfl _ _ 65 rfl w.heap.size 54 i0 zline 9 40 Try.underlying65 hi hz0 hz1 hz2 rfl (by decide) u3 ((linesT T (2 * k)).length) ((linesT T (2 * k)).flatMap Ln.enc) rfl OW.out ⟨a0.heap.size + 1, 0, none⟩ 1 1 ([.bool true, .int .i64 t1, .int .i64 p1, .int .i64 q1, .bool x1, .bool y1, .bool z1, .bool g1, .bool d1] : List Value) rfl rfl NW.out ON.out MX.out BY.out HZ.out ?_; intro v2 a1 hown hg hnil; have O2 : Hid (a1.ownsRow w.heap.size 54 9 v2 ((linesT T (2 * k)).length + 1) (((linesT T (2 * k)).flatMap Ln.enc) ++ [.bool true, .int .i64 t1, .int .i64 p1, .int .i64 q1, .bool x1, .bool y1, .bool z1, .bool g1, .bool d1])) := hown; have B2 : Hid (Below w.heap.size w a1) := below_grown (base := 0) (B1.out.trans (Go.Joins.below_le (Go.Joins.below_alloc2 a0 _ _) B1.out.size)) OW.out hg; clear hown hg hnil OW NW ON HZ MX BY)
        go_wp2_with fail
        have OF : Hid (a1.ownsRow w.heap.size 54 9 v2 (linesT T (2 * (k + 1))).length ((linesT T (2 * (k + 1))).flatMap Ln.enc)) := by
          have e : linesT T (2 * (k + 1)) = linesT T (2 * k) ++ [(⟨true, t1, p1, q1, x1, y1, z1, g1, d1⟩ : Ln)] := by
            rw [show 2 * (k + 1) = 2 * k + 1 + 1 by omega, lines_yes T (2 * k + 1) (by rw [H1.out]), lines_no T (2 * k) (by rw [H0.out]), H1.out]
          have := O2.out
          show World.ownsRow _ _ _ _ _ _ _
          rw [e]
          try simp only [List.length_append, List.length_cons, List.length_nil, List.flatMap_append, List.flatMap_cons, List.flatMap_nil, List.append_nil] at this ⊢
          exact this
        rw [rounds_succ]
        go_wp2_with fail
        go_roundw
        case rel => exact ⟨k + 1, by omega, by go_num, OF, B2⟩
        case measure => simp [intOf]; omega
      · go_wp2_with fail
        rw [HK.out]
        simp only [Result.andThen_ok, Oper.upon]
        refine (‹∀ (a : Act) (w : World), wpList _ _ _ _ a w → _› _ _ ?_)
        refine Go.Great.wpList_allocTo rfl (some 5) rfl (.pointer (some ⟨wr.heap.size, 0, none⟩)) (.cells #[.bool false, .int .i64 0, .int .i64 0, .int .i64 0, .bool false, .bool false, .bool false, .bool false, .bool false, .bool false, .int .i64 0, .int .i64 0, .int .i64 0, .bool false, .bool false, .bool false, .bool false, .bool false] 55) (by kernel_rfl) ?_
        simp only [Act.put, List.setIfInBounds_toArray, List.set_cons_zero, List.set_cons_succ]
        have TH : (wr.alloc (.cells #[.bool false, .int .i64 0, .int .i64 0, .int .i64 0, .bool false, .bool false, .bool false, .bool false, .bool false, .bool false, .int .i64 0, .int .i64 0, .int .i64 0, .bool false, .bool false, .bool false, .bool false, .bool false] 55)).there wr.heap.size 0 18 := there_block (own1 wr _)
        refine store_pat wr.heap.size 0 #[.bool true, .int .i64 t0, .int .i64 p0, .int .i64 q0, .bool x0, .bool y0, .bool z0, .bool g0, .bool d0, .bool false, .int .i64 t1, .int .i64 p1, .int .i64 q1, .bool x1, .bool y1, .bool z1, .bool g1, .bool d1] rfl rfl TH set_info (by simp [Value.oneCell']) ?_
        have R : Hid (((wr.alloc (.cells #[.bool false, .int .i64 0, .int .i64 0, .int .i64 0, .bool false, .bool false, .bool false, .bool false, .bool false, .bool false, .int .i64 0, .int .i64 0, .int .i64 0, .bool false, .bool false, .bool false, .bool false, .bool false] 55)).setCells wr.heap.size 0 [.bool true, .int .i64 t0, .int .i64 p0, .int .i64 q0, .bool x0, .bool y0, .bool z0, .bool g0, .bool d0, .bool false, .int .i64 t1, .int .i64 p1, .int .i64 q1, .bool x1, .bool y1, .bool z1, .bool g1, .bool d1]).rangeAt wr.heap.size 0 [.bool true, .int .i64 t0, .int .i64 p0, .int .i64 q0, .bool x0, .bool y0, .bool z0, .bool g0, .bool d0, .bool false, .int .i64 t1, .int .i64 p1, .int .i64 q1, .bool x1, .bool y1, .bool z1, .bool g1, .bool d1]) := World.rangeAt_setCells_same _ wr.heap.size 0 _ TH
        have BW : Below wr.heap.size wr ((wr.alloc (.cells #[.bool false, .int .i64 0, .int .i64 0, .int .i64 0, .bool false, .bool false, .bool false, .bool false, .bool false, .bool false, .int .i64 0, .int .i64 0, .int .i64 0, .bool false, .bool false, .bool false, .bool false, .bool false] 55)).setCells wr.heap.size 0 [.bool true, .int .i64 t0, .int .i64 p0, .int .i64 q0, .bool x0, .bool y0, .bool z0, .bool g0, .bool d0, .bool false, .int .i64 t1, .int .i64 p1, .int .i64 q1, .bool x1, .bool y1, .bool z1, .bool g1, .bool d1]) := below_setCells (Go.Joins.below_alloc1 wr _) _ _ _ (Nat.le_refl _)
        have O0 : Hid (((wr.alloc (.cells #[.bool false, .int .i64 0, .int .i64 0, .int .i64 0, .bool false, .bool false, .bool false, .bool false, .bool false, .bool false, .int .i64 0, .int .i64 0, .int .i64 0, .bool false, .bool false, .bool false, .bool false, .bool false] 55)).setCells wr.heap.size 0 [.bool true, .int .i64 t0, .int .i64 p0, .int .i64 q0, .bool x0, .bool y0, .bool z0, .bool g0, .bool d0, .bool false, .int .i64 t1, .int .i64 p1, .int .i64 q1, .bool x1, .bool y1, .bool z1, .bool g1, .bool d1]).ownsRow w.heap.size 54 9 u3 (linesT T (2 * k)).length ((linesT T (2 * k)).flatMap Ln.enc)) := own_keep O.out BW
        have B0 : Hid (Below w.heap.size w ((wr.alloc (.cells #[.bool false, .int .i64 0, .int .i64 0, .int .i64 0, .bool false, .bool false, .bool false, .bool false, .bool false, .bool false, .int .i64 0, .int .i64 0, .int .i64 0, .bool false, .bool false, .bool false, .bool false, .bool false] 55)).setCells wr.heap.size 0 [.bool true, .int .i64 t0, .int .i64 p0, .int .i64 q0, .bool x0, .bool y0, .bool z0, .bool g0, .bool d0, .bool false, .int .i64 t1, .int .i64 p1, .int .i64 q1, .bool x1, .bool y1, .bool z1, .bool g1, .bool d1])) := below_then B.out BW
        clear TH BW HK
        simp only [List.toList_toArray]
        generalize (wr.alloc (.cells #[.bool false, .int .i64 0, .int .i64 0, .int .i64 0, .bool false, .bool false, .bool false, .bool false, .bool false, .bool false, .int .i64 0, .int .i64 0, .int .i64 0, .bool false, .bool false, .bool false, .bool false, .bool false] 55)).setCells wr.heap.size 0 [.bool true, .int .i64 t0, .int .i64 p0, .int .i64 q0, .bool x0, .bool y0, .bool z0, .bool g0, .bool d0, .bool false, .int .i64 t1, .int .i64 p1, .int .i64 q1, .bool x1, .bool y1, .bool z1, .bool g1, .bool d1] = U0 at R O0 B0 ⊢
        go_step
        simp only [Exit.then]
        refine (‹∀ (a : Act) (w : World), Code.wp _ _ _ a w → _› _ _ ?_)
        go_step
        go_step
        refine load_pat wr.heap.size 0 [.bool true, .int .i64 t0, .int .i64 p0, .int .i64 q0, .bool x0, .bool y0, .bool z0, .bool g0, .bool d0, .bool false, .int .i64 t1, .int .i64 p1, .int .i64 q1, .bool x1, .bool y1, .bool z1, .bool g1, .bool d1] (.array 2 54) rfl R.out Try.underlying55 rfl set_info ?_
        simp only [Act.put, List.setIfInBounds_toArray, List.set_cons_zero, List.set_cons_succ]
        clear R
        go_wp2_with fail
        refine wp_loop_rounds 3 ?_
        rw [rounds_succ]
        have OW : Hid ((((U0.alloc (.cells #[.bool true, .int .i64 t0, .int .i64 p0, .int .i64 q0, .bool x0, .bool y0, .bool z0, .bool g0, .bool d0] 54)).alloc (.cells #[.bool true, .int .i64 t0, .int .i64 p0, .int .i64 q0, .bool x0, .bool y0, .bool z0, .bool g0, .bool d0] 54))).ownsRow w.heap.size 54 9 u3 ((linesT T (2 * k)).length) ((linesT T (2 * k)).flatMap Ln.enc)) := own_keep O0.out (Go.Joins.below_alloc2 _ _ _)
        have NW : Hid (∀ j x, ([.bool true, .int .i64 t0, .int .i64 p0, .int .i64 q0, .bool x0, .bool y0, .bool z0, .bool g0, .bool d0] : List Value)[j]? = some x → ((U0.alloc (.cells #[.bool true, .int .i64 t0, .int .i64 p0, .int .i64 q0, .bool x0, .bool y0, .bool z0, .bool g0, .bool d0] 54)).alloc (.cells #[.bool true, .int .i64 t0, .int .i64 p0, .int .i64 q0, .bool x0, .bool y0, .bool z0, .bool g0, .bool d0] 54)).cell? ((⟨U0.heap.size + 1, 0, none⟩ : Addr).add j) = some x) := news_cells U0 _ #[.bool true, .int .i64 t0, .int .i64 p0, .int .i64 q0, .bool x0, .bool y0, .bool z0, .bool g0, .bool d0] 54
        have ON : Hid (∀ x ∈ ([.bool true, .int .i64 t0, .int .i64 p0, .int .i64 q0, .bool x0, .bool y0, .bool z0, .bool g0, .bool d0] : List Value), x.oneCell' = true) := by show ∀ x ∈ ([.bool true, .int .i64 t0, .int .i64 p0, .int .i64 q0, .bool x0, .bool y0, .bool z0, .bool g0, .bool d0] : List Value), x.oneCell' = true; simp [Value.oneCell']
        have HZ : Hid (w.heap.size ≤ ((U0.alloc (.cells #[.bool true, .int .i64 t0, .int .i64 p0, .int .i64 q0, .bool x0, .bool y0, .bool z0, .bool g0, .bool d0] 54)).alloc (.cells #[.bool true, .int .i64 t0, .int .i64 p0, .int .i64 q0, .bool x0, .bool y0, .bool z0, .bool g0, .bool d0] 54)).heap.size) := by show _ ≤ _; rw [World.size_alloc, World.size_alloc]; have := B0.out.size; omega
        have MX : Hid ((linesT T (2 * k)).length + 1 ≤ maxLen) := by show _ ≤ _; unfold maxLen; have := LN.out; omega
        have BY : Hid (((linesT T (2 * k)).length + 1) * 40 ≤ 140737488355328) := by show _ ≤ _; have := LN.out; omega
        go_wp2_with (at_builtin; refine wpList_append_own _ rfl _ _ 65 rfl w.heap.size 54 i0 zline 9 40 Try.underlying65 hi hz0 hz1 hz2 rfl (by decide) u3 ((linesT T (2 * k)).length) ((linesT T (2 * k)).flatMap Ln.enc) rfl OW.out ⟨U0.heap.size + 1, 0, none⟩ 1 1 ([.bool true, .int .i64 t0, .int .i64 p0, .int .i64 q0, .bool x0, .bool y0, .bool z0, .bool g0, .bool d0] : List Value) rfl rfl NW.out ON.out MX.out BY.out HZ.out ?_; intro v1 a0 hown hg hnil; have O1 : Hid (a0.ownsRow w.heap.size 54 9 v1 ((linesT T (2 * k)).length + 1) (((linesT T (2 * k)).flatMap Ln.enc) ++ [.bool true, .int .i64 t0, .int .i64 p0, .int .i64 q0, .bool x0, .bool y0, .bool z0, .bool g0, .bool d0])) := hown; have B1 : Hid (Below w.heap.size w a0) := below_grown (base := 0) (B0.out.trans (Go.Joins.below_le (Go.Joins.below_alloc2 U0 _ _) B0.out.size)) OW.out hg; clear hown hg hnil OW NW ON HZ MX BY)
        go_wp2_with fail
        rw [rounds_succ]
        go_wp2_with fail
        have O2 : Hid ((a0.alloc (.cells #[.bool false, .int .i64 t1, .int .i64 p1, .int .i64 q1, .bool x1, .bool y1, .bool z1, .bool g1, .bool d1] 54)).ownsRow w.heap.size 54 9 v1 ((linesT T (2 * k)).length + 1) (((linesT T (2 * k)).flatMap Ln.enc) ++ [.bool true, .int .i64 t0, .int .i64 p0, .int .i64 q0, .bool x0, .bool y0, .bool z0, .bool g0, .bool d0])) := own_keep O1.out (Go.Joins.below_alloc1 _ _)
        have B2 : Hid (Below w.heap.size w (a0.alloc (.cells #[.bool false, .int .i64 t1, .int .i64 p1, .int .i64 q1, .bool x1, .bool y1, .bool z1, .bool g1, .bool d1] 54))) := below_new B1.out _
        generalize a0.alloc (.cells #[.bool false, .int .i64 t1, .int .i64 p1, .int .i64 q1, .bool x1, .bool y1, .bool z1, .bool g1, .bool d1] 54) = a1 at O2 B2 ⊢
        have OF : Hid (a1.ownsRow w.heap.size 54 9 v1 (linesT T (2 * (k + 1))).length ((linesT T (2 * (k + 1))).flatMap Ln.enc)) := by
          have e : linesT T (2 * (k + 1)) = linesT T (2 * k) ++ [(⟨true, t0, p0, q0, x0, y0, z0, g0, d0⟩ : Ln)] := by
            rw [show 2 * (k + 1) = 2 * k + 1 + 1 by omega, lines_no T (2 * k + 1) (by rw [H1.out]), lines_yes T (2 * k) (by rw [H0.out]), H0.out]
          have := O2.out
          show World.ownsRow _ _ _ _ _ _ _
          rw [e]
          try simp only [List.length_append, List.length_cons, List.length_nil, List.flatMap_append, List.flatMap_cons, List.flatMap_nil, List.append_nil] at this ⊢
          exact this
        rw [rounds_succ]
        go_wp2_with fail
        go_roundw
        case rel => exact ⟨k + 1, by omega, by go_num, OF, B2⟩
        case measure => simp [intOf]; omega
      · go_wp2_with fail
        rw [HK.out]
        simp only [Result.andThen_ok, Oper.upon]
        refine (‹∀ (a : Act) (w : World), wpList _ _ _ _ a w → _› _ _ ?_)
        refine Go.Great.wpList_allocTo rfl (some 5) rfl (.pointer (some ⟨wr.heap.size, 0, none⟩)) (.cells #[.bool false, .int .i64 0, .int .i64 0, .int .i64 0, .bool false, .bool false, .bool false, .bool false, .bool false, .bool false, .int .i64 0, .int .i64 0, .int .i64 0, .bool false, .bool false, .bool false, .bool false, .bool false] 55) (by kernel_rfl) ?_
        simp only [Act.put, List.setIfInBounds_toArray, List.set_cons_zero, List.set_cons_succ]
        have TH : (wr.alloc (.cells #[.bool false, .int .i64 0, .int .i64 0, .int .i64 0, .bool false, .bool false, .bool false, .bool false, .bool false, .bool false, .int .i64 0, .int .i64 0, .int .i64 0, .bool false, .bool false, .bool false, .bool false, .bool false] 55)).there wr.heap.size 0 18 := there_block (own1 wr _)
        refine store_pat wr.heap.size 0 #[.bool true, .int .i64 t0, .int .i64 p0, .int .i64 q0, .bool x0, .bool y0, .bool z0, .bool g0, .bool d0, .bool true, .int .i64 t1, .int .i64 p1, .int .i64 q1, .bool x1, .bool y1, .bool z1, .bool g1, .bool d1] rfl rfl TH set_info (by simp [Value.oneCell']) ?_
        have R : Hid (((wr.alloc (.cells #[.bool false, .int .i64 0, .int .i64 0, .int .i64 0, .bool false, .bool false, .bool false, .bool false, .bool false, .bool false, .int .i64 0, .int .i64 0, .int .i64 0, .bool false, .bool false, .bool false, .bool false, .bool false] 55)).setCells wr.heap.size 0 [.bool true, .int .i64 t0, .int .i64 p0, .int .i64 q0, .bool x0, .bool y0, .bool z0, .bool g0, .bool d0, .bool true, .int .i64 t1, .int .i64 p1, .int .i64 q1, .bool x1, .bool y1, .bool z1, .bool g1, .bool d1]).rangeAt wr.heap.size 0 [.bool true, .int .i64 t0, .int .i64 p0, .int .i64 q0, .bool x0, .bool y0, .bool z0, .bool g0, .bool d0, .bool true, .int .i64 t1, .int .i64 p1, .int .i64 q1, .bool x1, .bool y1, .bool z1, .bool g1, .bool d1]) := World.rangeAt_setCells_same _ wr.heap.size 0 _ TH
        have BW : Below wr.heap.size wr ((wr.alloc (.cells #[.bool false, .int .i64 0, .int .i64 0, .int .i64 0, .bool false, .bool false, .bool false, .bool false, .bool false, .bool false, .int .i64 0, .int .i64 0, .int .i64 0, .bool false, .bool false, .bool false, .bool false, .bool false] 55)).setCells wr.heap.size 0 [.bool true, .int .i64 t0, .int .i64 p0, .int .i64 q0, .bool x0, .bool y0, .bool z0, .bool g0, .bool d0, .bool true, .int .i64 t1, .int .i64 p1, .int .i64 q1, .bool x1, .bool y1, .bool z1, .bool g1, .bool d1]) := below_setCells (Go.Joins.below_alloc1 wr _) _ _ _ (Nat.le_refl _)
        have O0 : Hid (((wr.alloc (.cells #[.bool false, .int .i64 0, .int .i64 0, .int .i64 0, .bool false, .bool false, .bool false, .bool false, .bool false, .bool false, .int .i64 0, .int .i64 0, .int .i64 0, .bool false, .bool false, .bool false, .bool false, .bool false] 55)).setCells wr.heap.size 0 [.bool true, .int .i64 t0, .int .i64 p0, .int .i64 q0, .bool x0, .bool y0, .bool z0, .bool g0, .bool d0, .bool true, .int .i64 t1, .int .i64 p1, .int .i64 q1, .bool x1, .bool y1, .bool z1, .bool g1, .bool d1]).ownsRow w.heap.size 54 9 u3 (linesT T (2 * k)).length ((linesT T (2 * k)).flatMap Ln.enc)) := own_keep O.out BW
        have B0 : Hid (Below w.heap.size w ((wr.alloc (.cells #[.bool false, .int .i64 0, .int .i64 0, .int .i64 0, .bool false, .bool false, .bool false, .bool false, .bool false, .bool false, .int .i64 0, .int .i64 0, .int .i64 0, .bool false, .bool false, .bool false, .bool false, .bool false] 55)).setCells wr.heap.size 0 [.bool true, .int .i64 t0, .int .i64 p0, .int .i64 q0, .bool x0, .bool y0, .bool z0, .bool g0, .bool d0, .bool true, .int .i64 t1, .int .i64 p1, .int .i64 q1, .bool x1, .bool y1, .bool z1, .bool g1, .bool d1])) := below_then B.out BW
        clear TH BW HK
        simp only [List.toList_toArray]
        generalize (wr.alloc (.cells #[.bool false, .int .i64 0, .int .i64 0, .int .i64 0, .bool false, .bool false, .bool false, .bool false, .bool false, .bool false, .int .i64 0, .int .i64 0, .int .i64 0, .bool false, .bool false, .bool false, .bool false, .bool false] 55)).setCells wr.heap.size 0 [.bool true, .int .i64 t0, .int .i64 p0, .int .i64 q0, .bool x0, .bool y0, .bool z0, .bool g0, .bool d0, .bool true, .int .i64 t1, .int .i64 p1, .int .i64 q1, .bool x1, .bool y1, .bool z1, .bool g1, .bool d1] = U0 at R O0 B0 ⊢
        go_step
        simp only [Exit.then]
        refine (‹∀ (a : Act) (w : World), Code.wp _ _ _ a w → _› _ _ ?_)
        go_step
        go_step
        refine load_pat wr.heap.size 0 [.bool true, .int .i64 t0, .int .i64 p0, .int .i64 q0, .bool x0, .bool y0, .bool z0, .bool g0, .bool d0, .bool true, .int .i64 t1, .int .i64 p1, .int .i64 q1, .bool x1, .bool y1, .bool z1, .bool g1, .bool d1] (.array 2 54) rfl R.out Try.underlying55 rfl set_info ?_
        simp only [Act.put, List.setIfInBounds_toArray, List.set_cons_zero, List.set_cons_succ]
        clear R
        go_wp2_with fail
        refine wp_loop_rounds 3 ?_
        rw [rounds_succ]
        have OW : Hid ((((U0.alloc (.cells #[.bool true, .int .i64 t0, .int .i64 p0, .int .i64 q0, .bool x0, .bool y0, .bool z0, .bool g0, .bool d0] 54)).alloc (.cells #[.bool true, .int .i64 t0, .int .i64 p0, .int .i64 q0, .bool x0, .bool y0, .bool z0, .bool g0, .bool d0] 54))).ownsRow w.heap.size 54 9 u3 ((linesT T (2 * k)).length) ((linesT T (2 * k)).flatMap Ln.enc)) := own_keep O0.out (Go.Joins.below_alloc2 _ _ _)
        have NW : Hid (∀ j x, ([.bool true, .int .i64 t0, .int .i64 p0, .int .i64 q0, .bool x0, .bool y0, .bool z0, .bool g0, .bool d0] : List Value)[j]? = some x → ((U0.alloc (.cells #[.bool true, .int .i64 t0, .int .i64 p0, .int .i64 q0, .bool x0, .bool y0, .bool z0, .bool g0, .bool d0] 54)).alloc (.cells #[.bool true, .int .i64 t0, .int .i64 p0, .int .i64 q0, .bool x0, .bool y0, .bool z0, .bool g0, .bool d0] 54)).cell? ((⟨U0.heap.size + 1, 0, none⟩ : Addr).add j) = some x) := news_cells U0 _ #[.bool true, .int .i64 t0, .int .i64 p0, .int .i64 q0, .bool x0, .bool y0, .bool z0, .bool g0, .bool d0] 54
        have ON : Hid (∀ x ∈ ([.bool true, .int .i64 t0, .int .i64 p0, .int .i64 q0, .bool x0, .bool y0, .bool z0, .bool g0, .bool d0] : List Value), x.oneCell' = true) := by show ∀ x ∈ ([.bool true, .int .i64 t0, .int .i64 p0, .int .i64 q0, .bool x0, .bool y0, .bool z0, .bool g0, .bool d0] : List Value), x.oneCell' = true; simp [Value.oneCell']
        have HZ : Hid (w.heap.size ≤ ((U0.alloc (.cells #[.bool true, .int .i64 t0, .int .i64 p0, .int .i64 q0, .bool x0, .bool y0, .bool z0, .bool g0, .bool d0] 54)).alloc (.cells #[.bool true, .int .i64 t0, .int .i64 p0, .int .i64 q0, .bool x0, .bool y0, .bool z0, .bool g0, .bool d0] 54)).heap.size) := by show _ ≤ _; rw [World.size_alloc, World.size_alloc]; have := B0.out.size; omega
        have MX : Hid ((linesT T (2 * k)).length + 1 ≤ maxLen) := by show _ ≤ _; unfold maxLen; have := LN.out; omega
        have BY : Hid (((linesT T (2 * k)).length + 1) * 40 ≤ 140737488355328) := by show _ ≤ _; have := LN.out; omega
        go_wp2_with (at_builtin; refine wpList_append_own _ rfl _ _ 65 rfl w.heap.size 54 i0 zline 9 40 Try.underlying65 hi hz0 hz1 hz2 rfl (by decide) u3 ((linesT T (2 * k)).length) ((linesT T (2 * k)).flatMap Ln.enc) rfl OW.out ⟨U0.heap.size + 1, 0, none⟩ 1 1 ([.bool true, .int .i64 t0, .int .i64 p0, .int .i64 q0, .bool x0, .bool y0, .bool z0, .bool g0, .bool d0] : List Value) rfl rfl NW.out ON.out MX.out BY.out HZ.out ?_; intro v1 a0 hown hg hnil; have O1 : Hid (a0.ownsRow w.heap.size 54 9 v1 ((linesT T (2 * k)).length + 1) (((linesT T (2 * k)).flatMap Ln.enc) ++ [.bool true, .int .i64 t0, .int .i64 p0, .int .i64 q0, .bool x0, .bool y0, .bool z0, .bool g0, .bool d0])) := hown; have B1 : Hid (Below w.heap.size w a0) := below_grown (base := 0) (B0.out.trans (Go.Joins.below_le (Go.Joins.below_alloc2 U0 _ _) B0.out.size)) OW.out hg; clear hown hg hnil OW NW ON HZ MX BY)
        go_wp2_with fail
        rw [rounds_succ]
        have OW : Hid ((((a0.alloc (.cells #[.bool true, .int .i64 t1, .int .i64 p1, .int .i64 q1, .bool x1, .bool y1, .bool z1, .bool g1, .bool d1] 54)).alloc (.cells #[.bool true, .int .i64 t1, .int .i64 p1, .int .i64 q1, .bool x1, .bool y1, .bool z1, .bool g1, .bool d1] 54))).ownsRow w.heap.size 54 9 v1 ((linesT T (2 * k)).length + 1) (((linesT T (2 * k)).flatMap Ln.enc) ++ [.bool true, .int .i64 t0, .int .i64 p0, .int .i64 q0, .bool x0, .bool y0, .bool z0, .bool g0, .bool d0])) := own_keep O1.out (Go.Joins.below_alloc2 _ _ _)
        have NW : Hid (∀ j x, ([.bool true, .int .i64 t1, .int .i64 p1, .int .i64 q1, .bool x1, .bool y1, .bool z1, .bool g1, .bool d1] : List Value)[j]? = some x → ((a0.alloc (.cells #[.bool true, .int .i64 t1, .int .i64 p1, .int .i64 q1, .bool x1, .bool y1, .bool z1, .bool g1, .bool d1] 54)).alloc (.cells #[.bool true, .int .i64 t1, .int .i64 p1, .int .i64 q1, .bool x1, .bool y1, .bool z1, .bool g1, .bool d1] 54)).cell? ((⟨a0.heap.size + 1, 0, none⟩ : Addr).add j) = some x) := news_cells a0 _ #[.bool true, .int .i64 t1, .int .i64 p1, .int .i64 q1, .bool x1, .bool y1, .bool z1, .bool g1, .bool d1] 54
        have ON : Hid (∀ x ∈ ([.bool true, .int .i64 t1, .int .i64 p1, .int .i64 q1, .bool x1, .bool y1, .bool z1, .bool g1, .bool d1] : List Value), x.oneCell' = true) := by show ∀ x ∈ ([.bool true, .int .i64 t1, .int .i64 p1, .int .i64 q1, .bool x1, .bool y1, .bool z1, .bool g1, .bool d1] : List Value), x.oneCell' = true; simp [Value.oneCell']
        have HZ : Hid (w.heap.size ≤ ((a0.alloc (.cells #[.bool true, .int .i64 t1, .int .i64 p1, .int .i64 q1, .bool x1, .bool y1, .bool z1, .bool g1, .bool d1] 54)).alloc (.cells #[.bool true, .int .i64 t1, .int .i64 p1, .int .i64 q1, .bool x1, .bool y1, .bool z1, .bool g1, .bool d1] 54)).heap.size) := by show _ ≤ _; rw [World.size_alloc, World.size_alloc]; have := B1.out.size; omega
        have MX : Hid ((linesT T (2 * k)).length + 1 + 1 ≤ maxLen) := by show _ ≤ _; unfold maxLen; have := LN.out; omega
        have BY : Hid (((linesT T (2 * k)).length + 1 + 1) * 40 ≤ 140737488355328) := by show _ ≤ _; have := LN.out; omega
        go_wp2_with (at_builtin; refine wpList_append_own _ rfl _ _ 65 rfl w.heap.size 54 i0 zline 9 40 Try.underlying65 hi hz0 hz1 hz2 rfl (by decide) v1 ((linesT T (2 * k)).length + 1) (((linesT T (2 * k)).flatMap Ln.enc) ++ [.bool true, .int .i64 t0, .int .i64 p0, .int .i64 q0, .bool x0, .bool y0, .bool z0, .bool g0, .bool d0]) rfl OW.out ⟨a0.heap.size + 1, 0, none⟩ 1 1 ([.bool true, .int .i64 t1, .int .i64 p1, .int .i64 q1, .bool x1, .bool y1, .bool z1, .bool g1, .bool d1] : List Value) rfl rfl NW.out ON.out MX.out BY.out HZ.out ?_; intro v2 a1 hown hg hnil; have O2 : Hid (a1.ownsRow w.heap.size 54 9 v2 ((linesT T (2 * k)).length + 1 + 1) ((((linesT T (2 * k)).flatMap Ln.enc) ++ [.bool true, .int .i64 t0, .int .i64 p0, .int .i64 q0, .bool x0, .bool y0, .bool z0, .bool g0, .bool d0]) ++ [.bool true, .int .i64 t1, .int .i64 p1, .int .i64 q1, .bool x1, .bool y1, .bool z1, .bool g1, .bool d1])) := hown; have B2 : Hid (Below w.heap.size w a1) := below_grown (base := 0) (B1.out.trans (Go.Joins.below_le (Go.Joins.below_alloc2 a0 _ _) B1.out.size)) OW.out hg; clear hown hg hnil OW NW ON HZ MX BY)
        go_wp2_with fail
        have OF : Hid (a1.ownsRow w.heap.size 54 9 v2 (linesT T (2 * (k + 1))).length ((linesT T (2 * (k + 1))).flatMap Ln.enc)) := by
          have e : linesT T (2 * (k + 1)) = linesT T (2 * k) ++ [(⟨true, t0, p0, q0, x0, y0, z0, g0, d0⟩ : Ln)] ++ [(⟨true, t1, p1, q1, x1, y1, z1, g1, d1⟩ : Ln)] := by
            rw [show 2 * (k + 1) = 2 * k + 1 + 1 by omega, lines_yes T (2 * k + 1) (by rw [H1.out]), lines_yes T (2 * k) (by rw [H0.out]), H0.out, H1.out]
          have := O2.out
          show World.ownsRow _ _ _ _ _ _ _
          rw [e]
          try simp only [List.length_append, List.length_cons, List.length_nil, List.flatMap_append, List.flatMap_cons, List.flatMap_nil, List.append_nil] at this ⊢
          exact this
        rw [rounds_succ]
        go_wp2_with fail
        go_roundw
        case rel => exact ⟨k + 1, by omega, by go_num, OF, B2⟩
        case measure => simp [intOf]; omega
    · obtain rfl : k = 8 := by omega
      go_wp2_with fail
      go_ret
      exact ⟨_, rfl, O.out, B.out⟩
end Go.Proofs.Ytihedjlcjkbjfaa
