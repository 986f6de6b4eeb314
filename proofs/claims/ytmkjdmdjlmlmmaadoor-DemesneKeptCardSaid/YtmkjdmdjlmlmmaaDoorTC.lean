/- The translations' store: Lines; a store's beginning. -/
import Derived.Test.YtmkjdmdjlmlmmaaDoorTB
import Derived.Great.Walk
import Derived.Carry
namespace Go.Proofs.YtmkjdmdjlmlmmaaDoor.Tl
open Go.ChangeShapes Go.WideShapes Go.ChangeAt Go.RowKit Go.Maps
set_option linter.unusedSimpArgs false
set_option linter.unusedVariables false
set_option maxRecDepth 8000

theorem index_pat {P : Program} {ops : Array Oper} {rest : List Oper} {ty t : TypeId} {x y : Operand} {q : Tmp} {pos : String} {af : Array Edge} {a : Act} {w : World} {Q : Exit → Act → World → Prop} (u i v : Value) (hx : a.eval x = u) (hy : a.eval y = i)
    (hr : (Instr.index ty u i).run P w = .ok v w)
    (h : wpList P ops Q rest (a.put (some q) v) w) : wpList P ops Q ({ dst := some q, op := .index ty x y, type := t, pos := pos, after := af, guard := none } :: rest) a w := by
  refine wpList_plain rfl fun K hK => ?_
  unfold Oper.wp execOp
  simp only [hx, hy, Sem.run_bind, hr, Result.andThen_ok, Sem.run_pure, Oper.upon]
  exact hK _ _ h
theorem range_at {w : World} {b : Nat} {cs : List Value} {v : Value} (h : w.rangeAt b 0 cs) (i : Nat) (hi : cs[i]? = some v) : w.cell? ⟨b, i, none⟩ = some v := by have := h i v hi; rwa [Nat.zero_add] at this
theorem zero27 (W : World) : (zeroValue 31).run Tryd.prog W = .ok (.agg #[.bool false, .int .i64 0, .int .i64 0, .int .i64 0, .bool false, .bool false, .bool false, .bool false, .bool false, .bool false, .int .i64 0, .int .i64 0, .int .i64 0, .bool false, .bool false, .bool false, .bool false, .bool false]) W := by kernel_rfl
theorem below_grown {w U a0 : World} {v : Value} {base n e s : Nat} {xs : List Value} (B : Below w.heap.size w U) (O : U.ownsRow w.heap.size e s v n xs) (hg : U.grownBy a0 v.ownBlock) : Below w.heap.size w a0 :=
  B.grown hg B.size (fun j ej => own_base O j ej)
set_option maxHeartbeats 2000000 in
theorem lines_any (b : Nat) (T : Nat → Ln) (w : World) (h : IsTlb w b T) :
    Calls Tryd.prog 5 #[.pointer (some ⟨b, 0, none⟩)] w fun e w' => ∃ v, e = .returned v ∧ w'.ownsRow w.heap.size 30 9 v (linesT T 16).length ((linesT T 16).flatMap Ln.enc) ∧ Below w.heap.size w w' := by
  obtain ⟨i0, hi, hz0, hz1, hz2⟩ := info5 line_info5
  have RG : Hid (w.rangeAt b 0 (flatT T)) := flat_range h
  have ZV := zero27
  have IX0 := ix0
  have IX1 := ix1
  have IK : ∀ (k : Nat), k < 8 → ∀ (W : World), (Instr.index 32 (.agg (flatT T).toArray) (.int .i64 k)).run Tryd.prog W = .ok (.agg #[.bool (T (2 * k)).v, .int .i64 (T (2 * k)).t, .int .i64 (T (2 * k)).p, .int .i64 (T (2 * k)).f, .bool (T (2 * k)).w, .bool (T (2 * k)).u, .bool (T (2 * k)).x, .bool (T (2 * k)).g, .bool (T (2 * k)).d, .bool (T (2 * k + 1)).v, .int .i64 (T (2 * k + 1)).t, .int .i64 (T (2 * k + 1)).p, .int .i64 (T (2 * k + 1)).f, .bool (T (2 * k + 1)).w, .bool (T (2 * k + 1)).u, .bool (T (2 * k + 1)).x, .bool (T (2 * k + 1)).g, .bool (T (2 * k + 1)).d]) W := fun k hk W => ixk T k hk W
  have FL : Hid ((flatT T).length = 144) := rfl
  have fl : (flatT T).length = 144 := rfl
  clear h
  generalize hf : flatT T = FT at RG IK FL fl
  clear hf
  go_enter Tryd.func5, Tryd.ntmps5
  go_wp2_with (refine load_pat b 0 FT (.array 8 31) ?hx ?hc ?hu ?hd ?hi ?rest; (case hx => rfl); (case hc => exact RG.out); (case hu => exact Tryd.underlying32); (case hd => rfl); (case hi => rw [FL.out]; exact all_info))
  go_loopw [3, 12] (fun v x W => ∃ k : Nat, k ≤ 8 ∧ x = .int .i64 k ∧ Hid (W.ownsRow w.heap.size 30 9 v (linesT T (2 * k)).length ((linesT T (2 * k)).flatMap Ln.enc)) ∧ Hid (Below w.heap.size w W)) (fun _ x _ => 8 - (intOf x).toNat)
  case atStart => exact ⟨0, by omega, rfl, ⟨rfl, Or.inl ⟨rfl, rfl⟩⟩, Below.refl _ _⟩
  case round =>
    obtain ⟨k, hk, rfl, O, B⟩ := hrel
    by_cases hlt : k < 8
    · have hd : decide ((k : Int) < 8) = true := by simp; omega
      have LN : Hid ((linesT T (2 * k)).length ≤ 16) := Nat.le_trans (lines_len T (2 * k)) (by omega)
      have ik := IK k hlt
      clear IK RG
      obtain ⟨l0, h0⟩ : ∃ l, T (2 * k) = l := ⟨_, rfl⟩
      obtain ⟨l1, h1⟩ : ∃ l, T (2 * k + 1) = l := ⟨_, rfl⟩
      rw [h0, h1] at ik
      have H0 : Hid (T (2 * k) = l0) := h0
      have H1 : Hid (T (2 * k + 1) = l1) := h1
      clear h0 h1

      obtain ⟨b0, t0, p0, q0, x0, y0, z0, g0, d0⟩ := l0
      obtain ⟨b1, t1, p1, q1, x1, y1, z1, g1, d1⟩ := l1
      simp only at ik
      have HK : Hid _ := ik
      clear ik
      cases b0 <;> cases b1
      · go_wp2_with fail
        rw [HK.out]
        simp only [Result.andThen_ok, Oper.upon]
        refine (‹∀ (a : Act) (w : World), wpList _ _ _ _ a w → _› _ _ ?_)
        refine Go.Great.wpList_allocTo rfl (some 5) rfl (.pointer (some ⟨wr.heap.size, 0, none⟩)) (.cells #[.bool false, .int .i64 0, .int .i64 0, .int .i64 0, .bool false, .bool false, .bool false, .bool false, .bool false, .bool false, .int .i64 0, .int .i64 0, .int .i64 0, .bool false, .bool false, .bool false, .bool false, .bool false] 31) (by kernel_rfl) ?_
        simp only [Act.put, List.setIfInBounds_toArray, List.set_cons_zero, List.set_cons_succ]
        have TH : (wr.alloc (.cells #[.bool false, .int .i64 0, .int .i64 0, .int .i64 0, .bool false, .bool false, .bool false, .bool false, .bool false, .bool false, .int .i64 0, .int .i64 0, .int .i64 0, .bool false, .bool false, .bool false, .bool false, .bool false] 31)).there wr.heap.size 0 18 := there_block (own1 wr _)
        refine store_pat wr.heap.size 0 #[.bool false, .int .i64 t0, .int .i64 p0, .int .i64 q0, .bool x0, .bool y0, .bool z0, .bool g0, .bool d0, .bool false, .int .i64 t1, .int .i64 p1, .int .i64 q1, .bool x1, .bool y1, .bool z1, .bool g1, .bool d1] rfl rfl TH set_info (by simp [Value.oneCell']) ?_
        have R : Hid (((wr.alloc (.cells #[.bool false, .int .i64 0, .int .i64 0, .int .i64 0, .bool false, .bool false, .bool false, .bool false, .bool false, .bool false, .int .i64 0, .int .i64 0, .int .i64 0, .bool false, .bool false, .bool false, .bool false, .bool false] 31)).setCells wr.heap.size 0 [.bool false, .int .i64 t0, .int .i64 p0, .int .i64 q0, .bool x0, .bool y0, .bool z0, .bool g0, .bool d0, .bool false, .int .i64 t1, .int .i64 p1, .int .i64 q1, .bool x1, .bool y1, .bool z1, .bool g1, .bool d1]).rangeAt wr.heap.size 0 [.bool false, .int .i64 t0, .int .i64 p0, .int .i64 q0, .bool x0, .bool y0, .bool z0, .bool g0, .bool d0, .bool false, .int .i64 t1, .int .i64 p1, .int .i64 q1, .bool x1, .bool y1, .bool z1, .bool g1, .bool d1]) := World.rangeAt_setCells_same _ wr.heap.size 0 _ TH
        have BW : Below wr.heap.size wr ((wr.alloc (.cells #[.bool false, .int .i64 0, .int .i64 0, .int .i64 0, .bool false, .bool false, .bool false, .bool false, .bool false, .bool false, .int .i64 0, .int .i64 0, .int .i64 0, .bool false, .bool false, .bool false, .bool false, .bool false] 31)).setCells wr.heap.size 0 [.bool false, .int .i64 t0, .int .i64 p0, .int .i64 q0, .bool x0, .bool y0, .bool z0, .bool g0, .bool d0, .bool false, .int .i64 t1, .int .i64 p1, .int .i64 q1, .bool x1, .bool y1, .bool z1, .bool g1, .bool d1]) := below_setCells (Go.Joins.below_alloc1 wr _) _ _ _ (Nat.le_refl _)
        have O0 : Hid (((wr.alloc (.cells #[.bool false, .int .i64 0, .int .i64 0, .int .i64 0, .bool false, .bool false, .bool false, .bool false, .bool false, .bool false, .int .i64 0, .int .i64 0, .int .i64 0, .bool false, .bool false, .bool false, .bool false, .bool false] 31)).setCells wr.heap.size 0 [.bool false, .int .i64 t0, .int .i64 p0, .int .i64 q0, .bool x0, .bool y0, .bool z0, .bool g0, .bool d0, .bool false, .int .i64 t1, .int .i64 p1, .int .i64 q1, .bool x1, .bool y1, .bool z1, .bool g1, .bool d1]).ownsRow w.heap.size 30 9 u3 (linesT T (2 * k)).length ((linesT T (2 * k)).flatMap Ln.enc)) := own_keep O.out BW
        have B0 : Hid (Below w.heap.size w ((wr.alloc (.cells #[.bool false, .int .i64 0, .int .i64 0, .int .i64 0, .bool false, .bool false, .bool false, .bool false, .bool false, .bool false, .int .i64 0, .int .i64 0, .int .i64 0, .bool false, .bool false, .bool false, .bool false, .bool false] 31)).setCells wr.heap.size 0 [.bool false, .int .i64 t0, .int .i64 p0, .int .i64 q0, .bool x0, .bool y0, .bool z0, .bool g0, .bool d0, .bool false, .int .i64 t1, .int .i64 p1, .int .i64 q1, .bool x1, .bool y1, .bool z1, .bool g1, .bool d1])) := below_then B.out BW
        clear TH BW HK
        simp only [List.toList_toArray]
        generalize (wr.alloc (.cells #[.bool false, .int .i64 0, .int .i64 0, .int .i64 0, .bool false, .bool false, .bool false, .bool false, .bool false, .bool false, .int .i64 0, .int .i64 0, .int .i64 0, .bool false, .bool false, .bool false, .bool false, .bool false] 31)).setCells wr.heap.size 0 [.bool false, .int .i64 t0, .int .i64 p0, .int .i64 q0, .bool x0, .bool y0, .bool z0, .bool g0, .bool d0, .bool false, .int .i64 t1, .int .i64 p1, .int .i64 q1, .bool x1, .bool y1, .bool z1, .bool g1, .bool d1] = U0 at R O0 B0 ⊢
        go_step
        simp only [Exit.then]
        refine (‹∀ (a : Act) (w : World), Code.wp _ _ _ a w → _› _ _ ?_)
        go_step
        go_step
        refine load_pat wr.heap.size 0 [.bool false, .int .i64 t0, .int .i64 p0, .int .i64 q0, .bool x0, .bool y0, .bool z0, .bool g0, .bool d0, .bool false, .int .i64 t1, .int .i64 p1, .int .i64 q1, .bool x1, .bool y1, .bool z1, .bool g1, .bool d1] (.array 2 30) rfl R.out Tryd.underlying31 rfl set_info ?_
        simp only [Act.put, List.setIfInBounds_toArray, List.set_cons_zero, List.set_cons_succ]
        clear R
        go_wp2_with fail
        refine wp_loop_rounds 3 ?_
        rw [rounds_succ]
        go_wp2_with fail
        have O1 : Hid ((U0.alloc (.cells #[.bool false, .int .i64 t0, .int .i64 p0, .int .i64 q0, .bool x0, .bool y0, .bool z0, .bool g0, .bool d0] 30)).ownsRow w.heap.size 30 9 u3 ((linesT T (2 * k)).length) ((linesT T (2 * k)).flatMap Ln.enc)) := own_keep O0.out (Go.Joins.below_alloc1 _ _)
        have B1 : Hid (Below w.heap.size w (U0.alloc (.cells #[.bool false, .int .i64 t0, .int .i64 p0, .int .i64 q0, .bool x0, .bool y0, .bool z0, .bool g0, .bool d0] 30))) := below_new B0.out _
        generalize U0.alloc (.cells #[.bool false, .int .i64 t0, .int .i64 p0, .int .i64 q0, .bool x0, .bool y0, .bool z0, .bool g0, .bool d0] 30) = a0 at O1 B1 ⊢
        rw [rounds_succ]
        go_wp2_with fail
        have O2 : Hid ((a0.alloc (.cells #[.bool false, .int .i64 t1, .int .i64 p1, .int .i64 q1, .bool x1, .bool y1, .bool z1, .bool g1, .bool d1] 30)).ownsRow w.heap.size 30 9 u3 ((linesT T (2 * k)).length) ((linesT T (2 * k)).flatMap Ln.enc)) := own_keep O1.out (Go.Joins.below_alloc1 _ _)
        have B2 : Hid (Below w.heap.size w (a0.alloc (.cells #[.bool false, .int .i64 t1, .int .i64 p1, .int .i64 q1, .bool x1, .bool y1, .bool z1, .bool g1, .bool d1] 30))) := below_new B1.out _
        generalize a0.alloc (.cells #[.bool false, .int .i64 t1, .int .i64 p1, .int .i64 q1, .bool x1, .bool y1, .bool z1, .bool g1, .bool d1] 30) = a1 at O2 B2 ⊢
        have OF : Hid (a1.ownsRow w.heap.size 30 9 u3 (linesT T (2 * (k + 1))).length ((linesT T (2 * (k + 1))).flatMap Ln.enc)) := by
          have e : linesT T (2 * (k + 1)) = linesT T (2 * k) := by
            rw [show 2 * (k + 1) = 2 * k + 1 + 1 by omega, lines_no T (2 * k + 1) (by rw [H1.out]), lines_no T (2 * k) (by rw [H0.out])]
          have := O2.out
          show World.ownsRow _ _ _ _ _ _ _
          rw [e]
          try simp only [List.length_append, List.length_cons, List.length_nil, List.flatMap_append, List.flatMap_cons, List.flatMap_nil, List.append_nil] at this ⊢
          exact this
        rw [rounds_succ]
        go_wp2_with fail
        go_roundw
        case rel => exact ⟨k + 1, by omega, by go_num, OF, B2⟩
        case measure => simp [intOf]; omega
      · go_wp2_with fail
        rw [HK.out]
        simp only [Result.andThen_ok, Oper.upon]
        refine (‹∀ (a : Act) (w : World), wpList _ _ _ _ a w → _› _ _ ?_)
        refine Go.Great.wpList_allocTo rfl (some 5) rfl (.pointer (some ⟨wr.heap.size, 0, none⟩)) (.cells #[.bool false, .int .i64 0, .int .i64 0, .int .i64 0, .bool false, .bool false, .bool false, .bool false, .bool false, .bool false, .int .i64 0, .int .i64 0, .int .i64 0, .bool false, .bool false, .bool false, .bool false, .bool false] 31) (by kernel_rfl) ?_
        simp only [Act.put, List.setIfInBounds_toArray, List.set_cons_zero, List.set_cons_succ]
        have TH : (wr.alloc (.cells #[.bool false, .int .i64 0, .int .i64 0, .int .i64 0, .bool false, .bool false, .bool false, .bool false, .bool false, .bool false, .int .i64 0, .int .i64 0, .int .i64 0, .bool false, .bool false, .bool false, .bool false, .bool false] 31)).there wr.heap.size 0 18 := there_block (own1 wr _)
        refine store_pat wr.heap.size 0 #[.bool false, .int .i64 t0, .int .i64 p0, .int .i64 q0, .bool x0, .bool y0, .bool z0, .bool g0, .bool d0, .bool true, .int .i64 t1, .int .i64 p1, .int .i64 q1, .bool x1, .bool y1, .bool z1, .bool g1, .bool d1] rfl rfl TH set_info (by simp [Value.oneCell']) ?_
        have R : Hid (((wr.alloc (.cells #[.bool false, .int .i64 0, .int .i64 0, .int .i64 0, .bool false, .bool false, .bool false, .bool false, .bool false, .bool false, .int .i64 0, .int .i64 0, .int .i64 0, .bool false, .bool false, .bool false, .bool false, .bool false] 31)).setCells wr.heap.size 0 [.bool false, .int .i64 t0, .int .i64 p0, .int .i64 q0, .bool x0, .bool y0, .bool z0, .bool g0, .bool d0, .bool true, .int .i64 t1, .int .i64 p1, .int .i64 q1, .bool x1, .bool y1, .bool z1, .bool g1, .bool d1]).rangeAt wr.heap.size 0 [.bool false, .int .i64 t0, .int .i64 p0, .int .i64 q0, .bool x0, .bool y0, .bool z0, .bool g0, .bool d0, .bool true, .int .i64 t1, .int .i64 p1, .int .i64 q1, .bool x1, .bool y1, .bool z1, .bool g1, .bool d1]) := World.rangeAt_setCells_same _ wr.heap.size 0 _ TH
        have BW : Below wr.heap.size wr ((wr.alloc (.cells #[.bool false, .int .i64 0, .int .i64 0, .int .i64 0, .bool false, .bool false, .bool false, .bool false, .bool false, .bool false, .int .i64 0, .int .i64 0, .int .i64 0, .bool false, .bool false, .bool false, .bool false, .bool false] 31)).setCells wr.heap.size 0 [.bool false, .int .i64 t0, .int .i64 p0, .int .i64 q0, .bool x0, .bool y0, .bool z0, .bool g0, .bool d0, .bool true, .int .i64 t1, .int .i64 p1, .int .i64 q1, .bool x1, .bool y1, .bool z1, .bool g1, .bool d1]) := below_setCells (Go.Joins.below_alloc1 wr _) _ _ _ (Nat.le_refl _)
        have O0 : Hid (((wr.alloc (.cells #[.bool false, .int .i64 0, .int .i64 0, .int .i64 0, .bool false, .bool false, .bool false, .bool false, .bool false, .bool false, .int .i64 0, .int .i64 0, .int .i64 0, .bool false, .bool false, .bool false, .bool false, .bool false] 31)).setCells wr.heap.size 0 [.bool false, .int .i64 t0, .int .i64 p0, .int .i64 q0, .bool x0, .bool y0, .bool z0, .bool g0, .bool d0, .bool true, .int .i64 t1, .int .i64 p1, .int .i64 q1, .bool x1, .bool y1, .bool z1, .bool g1, .bool d1]).ownsRow w.heap.size 30 9 u3 (linesT T (2 * k)).length ((linesT T (2 * k)).flatMap Ln.enc)) := own_keep O.out BW
        have B0 : Hid (Below w.heap.size w ((wr.alloc (.cells #[.bool false, .int .i64 0, .int .i64 0, .int .i64 0, .bool false, .bool false, .bool false, .bool false, .bool false, .bool false, .int .i64 0, .int .i64 0, .int .i64 0, .bool false, .bool false, .bool false, .bool false, .bool false] 31)).setCells wr.heap.size 0 [.bool false, .int .i64 t0, .int .i64 p0, .int .i64 q0, .bool x0, .bool y0, .bool z0, .bool g0, .bool d0, .bool true, .int .i64 t1, .int .i64 p1, .int .i64 q1, .bool x1, .bool y1, .bool z1, .bool g1, .bool d1])) := below_then B.out BW
        clear TH BW HK
        simp only [List.toList_toArray]
        generalize (wr.alloc (.cells #[.bool false, .int .i64 0, .int .i64 0, .int .i64 0, .bool false, .bool false, .bool false, .bool false, .bool false, .bool false, .int .i64 0, .int .i64 0, .int .i64 0, .bool false, .bool false, .bool false, .bool false, .bool false] 31)).setCells wr.heap.size 0 [.bool false, .int .i64 t0, .int .i64 p0, .int .i64 q0, .bool x0, .bool y0, .bool z0, .bool g0, .bool d0, .bool true, .int .i64 t1, .int .i64 p1, .int .i64 q1, .bool x1, .bool y1, .bool z1, .bool g1, .bool d1] = U0 at R O0 B0 ⊢
        go_step
        simp only [Exit.then]
        refine (‹∀ (a : Act) (w : World), Code.wp _ _ _ a w → _› _ _ ?_)
        go_step
        go_step
        refine load_pat wr.heap.size 0 [.bool false, .int .i64 t0, .int .i64 p0, .int .i64 q0, .bool x0, .bool y0, .bool z0, .bool g0, .bool d0, .bool true, .int .i64 t1, .int .i64 p1, .int .i64 q1, .bool x1, .bool y1, .bool z1, .bool g1, .bool d1] (.array 2 30) rfl R.out Tryd.underlying31 rfl set_info ?_
        simp only [Act.put, List.setIfInBounds_toArray, List.set_cons_zero, List.set_cons_succ]
        clear R
        go_wp2_with fail
        refine wp_loop_rounds 3 ?_
        rw [rounds_succ]
        go_wp2_with fail
        have O1 : Hid ((U0.alloc (.cells #[.bool false, .int .i64 t0, .int .i64 p0, .int .i64 q0, .bool x0, .bool y0, .bool z0, .bool g0, .bool d0] 30)).ownsRow w.heap.size 30 9 u3 ((linesT T (2 * k)).length) ((linesT T (2 * k)).flatMap Ln.enc)) := own_keep O0.out (Go.Joins.below_alloc1 _ _)
        have B1 : Hid (Below w.heap.size w (U0.alloc (.cells #[.bool false, .int .i64 t0, .int .i64 p0, .int .i64 q0, .bool x0, .bool y0, .bool z0, .bool g0, .bool d0] 30))) := below_new B0.out _
        generalize U0.alloc (.cells #[.bool false, .int .i64 t0, .int .i64 p0, .int .i64 q0, .bool x0, .bool y0, .bool z0, .bool g0, .bool d0] 30) = a0 at O1 B1 ⊢
        rw [rounds_succ]
        have OW : Hid ((((a0.alloc (.cells #[.bool true, .int .i64 t1, .int .i64 p1, .int .i64 q1, .bool x1, .bool y1, .bool z1, .bool g1, .bool d1] 30)).alloc (.cells #[.bool true, .int .i64 t1, .int .i64 p1, .int .i64 q1, .bool x1, .bool y1, .bool z1, .bool g1, .bool d1] 30))).ownsRow w.heap.size 30 9 u3 ((linesT T (2 * k)).length) ((linesT T (2 * k)).flatMap Ln.enc)) := own_keep O1.out (Go.Joins.below_alloc2 _ _ _)
        have NW : Hid (∀ j x, ([.bool true, .int .i64 t1, .int .i64 p1, .int .i64 q1, .bool x1, .bool y1, .bool z1, .bool g1, .bool d1] : List Value)[j]? = some x → ((a0.alloc (.cells #[.bool true, .int .i64 t1, .int .i64 p1, .int .i64 q1, .bool x1, .bool y1, .bool z1, .bool g1, .bool d1] 30)).alloc (.cells #[.bool true, .int .i64 t1, .int .i64 p1, .int .i64 q1, .bool x1, .bool y1, .bool z1, .bool g1, .bool d1] 30)).cell? ((⟨a0.heap.size + 1, 0, none⟩ : Addr).add j) = some x) := news_cells a0 _ #[.bool true, .int .i64 t1, .int .i64 p1, .int .i64 q1, .bool x1, .bool y1, .bool z1, .bool g1, .bool d1] 30
        have ON : Hid (∀ x ∈ ([.bool true, .int .i64 t1, .int .i64 p1, .int .i64 q1, .bool x1, .bool y1, .bool z1, .bool g1, .bool d1] : List Value), x.oneCell' = true) := by show ∀ x ∈ ([.bool true, .int .i64 t1, .int .i64 p1, .int .i64 q1, .bool x1, .bool y1, .bool z1, .bool g1, .bool d1] : List Value), x.oneCell' = true; simp [Value.oneCell']
        have HZ : Hid (w.heap.size ≤ ((a0.alloc (.cells #[.bool true, .int .i64 t1, .int .i64 p1, .int .i64 q1, .bool x1, .bool y1, .bool z1, .bool g1, .bool d1] 30)).alloc (.cells #[.bool true, .int .i64 t1, .int .i64 p1, .int .i64 q1, .bool x1, .bool y1, .bool z1, .bool g1, .bool d1] 30)).heap.size) := by show _ ≤ _; rw [World.size_alloc, World.size_alloc]; have := B1.out.size; omega
        have MX : Hid ((linesT T (2 * k)).length + 1 ≤ maxLen) := by show _ ≤ _; unfold maxLen; have := LN.out; omega
        have BY : Hid (((linesT T (2 * k)).length + 1) * 40 ≤ 140737488355328) := by show _ ≤ _; have := LN.out; omega
        go_wp2_with (at_builtin; refine wpList_append_own _ rfl _ _ 37 rfl w.heap.size 30 i0 zline 9 40 Tryd.underlying37 hi hz0 hz1 hz2 rfl (by decide) u3 ((linesT T (2 * k)).length) ((linesT T (2 * k)).flatMap Ln.enc) rfl OW.out ⟨a0.heap.size + 1, 0, none⟩ 1 1 ([.bool true, .int .i64 t1, .int .i64 p1, .int .i64 q1, .bool x1, .bool y1, .bool z1, .bool g1, .bool d1] : List Value) rfl rfl NW.out ON.out MX.out BY.out HZ.out ?_; intro v2 a1 hown hg hnil; have O2 : Hid (a1.ownsRow w.heap.size 30 9 v2 ((linesT T (2 * k)).length + 1) (((linesT T (2 * k)).flatMap Ln.enc) ++ [.bool true, .int .i64 t1, .int .i64 p1, .int .i64 q1, .bool x1, .bool y1, .bool z1, .bool g1, .bool d1])) := hown; have B2 : Hid (Below w.heap.size w a1) := below_grown (base := 0) (B1.out.trans (Go.Joins.below_le (Go.Joins.below_alloc2 a0 _ _) B1.out.size)) OW.out hg; clear hown hg hnil OW NW ON HZ MX BY)
        go_wp2_with fail
        have OF : Hid (a1.ownsRow w.heap.size 30 9 v2 (linesT T (2 * (k + 1))).length ((linesT T (2 * (k + 1))).flatMap Ln.enc)) := by
          have e : linesT T (2 * (k + 1)) = linesT T (2 * k) ++ [(⟨true, t1, p1, q1, x1, y1, z1, g1, d1⟩ : Ln)] := by
            rw [show 2 * (k + 1) = 2 * k + 1 + 1 by omega, lines_yes T (2 * k + 1) (by rw [H1.out]), lines_no T (2 * k) (by rw [H0.out]), H1.out]
          have := O2.out
          show World.ownsRow _ _ _ _ _ _ _
          rw [e]
          try simp only [List.length_append, List.length_cons, List.length_nil, List.flatMap_append, List.flatMap_cons, List.flatMap_nil, List.append_nil] at this ⊢
          exact this
        rw [rounds_succ]
        go_wp2_with fail
        go_roundw
        case rel => exact ⟨k + 1, by omega, by go_num, OF, B2⟩
        case measure => simp [intOf]; omega
      · go_wp2_with fail
        rw [HK.out]
        simp only [Result.andThen_ok, Oper.upon]
        refine (‹∀ (a : Act) (w : World), wpList _ _ _ _ a w → _› _ _ ?_)
        refine Go.Great.wpList_allocTo rfl (some 5) rfl (.pointer (some ⟨wr.heap.size, 0, none⟩)) (.cells #[.bool false, .int .i64 0, .int .i64 0, .int .i64 0, .bool false, .bool false, .bool false, .bool false, .bool false, .bool false, .int .i64 0, .int .i64 0, .int .i64 0, .bool false, .bool false, .bool false, .bool false, .bool false] 31) (by kernel_rfl) ?_
        simp only [Act.put, List.setIfInBounds_toArray, List.set_cons_zero, List.set_cons_succ]
        have TH : (wr.alloc (.cells #[.bool false, .int .i64 0, .int .i64 0, .int .i64 0, .bool false, .bool false, .bool false, .bool false, .bool false, .bool false, .int .i64 0, .int .i64 0, .int .i64 0, .bool false, .bool false, .bool false, .bool false, .bool false] 31)).there wr.heap.size 0 18 := there_block (own1 wr _)
        refine store_pat wr.heap.size 0 #[.bool true, .int .i64 t0, .int .i64 p0, .int .i64 q0, .bool x0, .bool y0, .bool z0, .bool g0, .bool d0, .bool false, .int .i64 t1, .int .i64 p1, .int .i64 q1, .bool x1, .bool y1, .bool z1, .bool g1, .bool d1] rfl rfl TH set_info (by simp [Value.oneCell']) ?_
        have R : Hid (((wr.alloc (.cells #[.bool false, .int .i64 0, .int .i64 0, .int .i64 0, .bool false, .bool false, .bool false, .bool false, .bool false, .bool false, .int .i64 0, .int .i64 0, .int .i64 0, .bool false, .bool false, .bool false, .bool false, .bool false] 31)).setCells wr.heap.size 0 [.bool true, .int .i64 t0, .int .i64 p0, .int .i64 q0, .bool x0, .bool y0, .bool z0, .bool g0, .bool d0, .bool false, .int .i64 t1, .int .i64 p1, .int .i64 q1, .bool x1, .bool y1, .bool z1, .bool g1, .bool d1]).rangeAt wr.heap.size 0 [.bool true, .int .i64 t0, .int .i64 p0, .int .i64 q0, .bool x0, .bool y0, .bool z0, .bool g0, .bool d0, .bool false, .int .i64 t1, .int .i64 p1, .int .i64 q1, .bool x1, .bool y1, .bool z1, .bool g1, .bool d1]) := World.rangeAt_setCells_same _ wr.heap.size 0 _ TH
        have BW : Below wr.heap.size wr ((wr.alloc (.cells #[.bool false, .int .i64 0, .int .i64 0, .int .i64 0, .bool false, .bool false, .bool false, .bool false, .bool false, .bool false, .int .i64 0, .int .i64 0, .int .i64 0, .bool false, .bool false, .bool false, .bool false, .bool false] 31)).setCells wr.heap.size 0 [.bool true, .int .i64 t0, .int .i64 p0, .int .i64 q0, .bool x0, .bool y0, .bool z0, .bool g0, .bool d0, .bool false, .int .i64 t1, .int .i64 p1, .int .i64 q1, .bool x1, .bool y1, .bool z1, .bool g1, .bool d1]) := below_setCells (Go.Joins.below_alloc1 wr _) _ _ _ (Nat.le_refl _)
        have O0 : Hid (((wr.alloc (.cells #[.bool false, .int .i64 0, .int .i64 0, .int .i64 0, .bool false, .bool false, .bool false, .bool false, .bool false, .bool false, .int .i64 0, .int .i64 0, .int .i64 0, .bool false, .bool false, .bool false, .bool false, .bool false] 31)).setCells wr.heap.size 0 [.bool true, .int .i64 t0, .int .i64 p0, .int .i64 q0, .bool x0, .bool y0, .bool z0, .bool g0, .bool d0, .bool false, .int .i64 t1, .int .i64 p1, .int .i64 q1, .bool x1, .bool y1, .bool z1, .bool g1, .bool d1]).ownsRow w.heap.size 30 9 u3 (linesT T (2 * k)).length ((linesT T (2 * k)).flatMap Ln.enc)) := own_keep O.out BW
        have B0 : Hid (Below w.heap.size w ((wr.alloc (.cells #[.bool false, .int .i64 0, .int .i64 0, .int .i64 0, .bool false, .bool false, .bool false, .bool false, .bool false, .bool false, .int .i64 0, .int .i64 0, .int .i64 0, .bool false, .bool false, .bool false, .bool false, .bool false] 31)).setCells wr.heap.size 0 [.bool true, .int .i64 t0, .int .i64 p0, .int .i64 q0, .bool x0, .bool y0, .bool z0, .bool g0, .bool d0, .bool false, .int .i64 t1, .int .i64 p1, .int .i64 q1, .bool x1, .bool y1, .bool z1, .bool g1, .bool d1])) := below_then B.out BW
        clear TH BW HK
        simp only [List.toList_toArray]
        generalize (wr.alloc (.cells #[.bool false, .int .i64 0, .int .i64 0, .int .i64 0, .bool false, .bool false, .bool false, .bool false, .bool false, .bool false, .int .i64 0, .int .i64 0, .int .i64 0, .bool false, .bool false, .bool false, .bool false, .bool false] 31)).setCells wr.heap.size 0 [.bool true, .int .i64 t0, .int .i64 p0, .int .i64 q0, .bool x0, .bool y0, .bool z0, .bool g0, .bool d0, .bool false, .int .i64 t1, .int .i64 p1, .int .i64 q1, .bool x1, .bool y1, .bool z1, .bool g1, .bool d1] = U0 at R O0 B0 ⊢
        go_step
        simp only [Exit.then]
        refine (‹∀ (a : Act) (w : World), Code.wp _ _ _ a w → _› _ _ ?_)
        go_step
        go_step
        refine load_pat wr.heap.size 0 [.bool true, .int .i64 t0, .int .i64 p0, .int .i64 q0, .bool x0, .bool y0, .bool z0, .bool g0, .bool d0, .bool false, .int .i64 t1, .int .i64 p1, .int .i64 q1, .bool x1, .bool y1, .bool z1, .bool g1, .bool d1] (.array 2 30) rfl R.out Tryd.underlying31 rfl set_info ?_
        simp only [Act.put, List.setIfInBounds_toArray, List.set_cons_zero, List.set_cons_succ]
        clear R
        go_wp2_with fail
        refine wp_loop_rounds 3 ?_
        rw [rounds_succ]
        have OW : Hid ((((U0.alloc (.cells #[.bool true, .int .i64 t0, .int .i64 p0, .int .i64 q0, .bool x0, .bool y0, .bool z0, .bool g0, .bool d0] 30)).alloc (.cells #[.bool true, .int .i64 t0, .int .i64 p0, .int .i64 q0, .bool x0, .bool y0, .bool z0, .bool g0, .bool d0] 30))).ownsRow w.heap.size 30 9 u3 ((linesT T (2 * k)).length) ((linesT T (2 * k)).flatMap Ln.enc)) := own_keep O0.out (Go.Joins.below_alloc2 _ _ _)
        have NW : Hid (∀ j x, ([.bool true, .int .i64 t0, .int .i64 p0, .int .i64 q0, .bool x0, .bool y0, .bool z0, .bool g0, .bool d0] : List Value)[j]? = some x → ((U0.alloc (.cells #[.bool true, .int .i64 t0, .int .i64 p0, .int .i64 q0, .bool x0, .bool y0, .bool z0, .bool g0, .bool d0] 30)).alloc (.cells #[.bool true, .int .i64 t0, .int .i64 p0, .int .i64 q0, .bool x0, .bool y0, .bool z0, .bool g0, .bool d0] 30)).cell? ((⟨U0.heap.size + 1, 0, none⟩ : Addr).add j) = some x) := news_cells U0 _ #[.bool true, .int .i64 t0, .int .i64 p0, .int .i64 q0, .bool x0, .bool y0, .bool z0, .bool g0, .bool d0] 30
        have ON : Hid (∀ x ∈ ([.bool true, .int .i64 t0, .int .i64 p0, .int .i64 q0, .bool x0, .bool y0, .bool z0, .bool g0, .bool d0] : List Value), x.oneCell' = true) := by show ∀ x ∈ ([.bool true, .int .i64 t0, .int .i64 p0, .int .i64 q0, .bool x0, .bool y0, .bool z0, .bool g0, .bool d0] : List Value), x.oneCell' = true; simp [Value.oneCell']
        have HZ : Hid (w.heap.size ≤ ((U0.alloc (.cells #[.bool true, .int .i64 t0, .int .i64 p0, .int .i64 q0, .bool x0, .bool y0, .bool z0, .bool g0, .bool d0] 30)).alloc (.cells #[.bool true, .int .i64 t0, .int .i64 p0, .int .i64 q0, .bool x0, .bool y0, .bool z0, .bool g0, .bool d0] 30)).heap.size) := by show _ ≤ _; rw [World.size_alloc, World.size_alloc]; have := B0.out.size; omega
        have MX : Hid ((linesT T (2 * k)).length + 1 ≤ maxLen) := by show _ ≤ _; unfold maxLen; have := LN.out; omega
        have BY : Hid (((linesT T (2 * k)).length + 1) * 40 ≤ 140737488355328) := by show _ ≤ _; have := LN.out; omega
        go_wp2_with (at_builtin; refine wpList_append_own _ rfl _ _ 37 rfl w.heap.size 30 i0 zline 9 40 Tryd.underlying37 hi hz0 hz1 hz2 rfl (by decide) u3 ((linesT T (2 * k)).length) ((linesT T (2 * k)).flatMap Ln.enc) rfl OW.out ⟨U0.heap.size + 1, 0, none⟩ 1 1 ([.bool true, .int .i64 t0, .int .i64 p0, .int .i64 q0, .bool x0, .bool y0, .bool z0, .bool g0, .bool d0] : List Value) rfl rfl NW.out ON.out MX.out BY.out HZ.out ?_; intro v1 a0 hown hg hnil; have O1 : Hid (a0.ownsRow w.heap.size 30 9 v1 ((linesT T (2 * k)).length + 1) (((linesT T (2 * k)).flatMap Ln.enc) ++ [.bool true, .int .i64 t0, .int .i64 p0, .int .i64 q0, .bool x0, .bool y0, .bool z0, .bool g0, .bool d0])) := hown; have B1 : Hid (Below w.heap.size w a0) := below_grown (base := 0) (B0.out.trans (Go.Joins.below_le (Go.Joins.below_alloc2 U0 _ _) B0.out.size)) OW.out hg; clear hown hg hnil OW NW ON HZ MX BY)
        go_wp2_with fail
        rw [rounds_succ]
        go_wp2_with fail
        have O2 : Hid ((a0.alloc (.cells #[.bool false, .int .i64 t1, .int .i64 p1, .int .i64 q1, .bool x1, .bool y1, .bool z1, .bool g1, .bool d1] 30)).ownsRow w.heap.size 30 9 v1 ((linesT T (2 * k)).length + 1) (((linesT T (2 * k)).flatMap Ln.enc) ++ [.bool true, .int .i64 t0, .int .i64 p0, .int .i64 q0, .bool x0, .bool y0, .bool z0, .bool g0, .bool d0])) := own_keep O1.out (Go.Joins.below_alloc1 _ _)
        have B2 : Hid (Below w.heap.size w (a0.alloc (.cells #[.bool false, .int .i64 t1, .int .i64 p1, .int .i64 q1, .bool x1, .bool y1, .bool z1, .bool g1, .bool d1] 30))) := below_new B1.out _
        generalize a0.alloc (.cells #[.bool false, .int .i64 t1, .int .i64 p1, .int .i64 q1, .bool x1, .bool y1, .bool z1, .bool g1, .bool d1] 30) = a1 at O2 B2 ⊢
        have OF : Hid (a1.ownsRow w.heap.size 30 9 v1 (linesT T (2 * (k + 1))).length ((linesT T (2 * (k + 1))).flatMap Ln.enc)) := by
          have e : linesT T (2 * (k + 1)) = linesT T (2 * k) ++ [(⟨true, t0, p0, q0, x0, y0, z0, g0, d0⟩ : Ln)] := by
            rw [show 2 * (k + 1) = 2 * k + 1 + 1 by omega, lines_no T (2 * k + 1) (by rw [H1.out]), lines_yes T (2 * k) (by rw [H0.out]), H0.out]
          have := O2.out
          show World.ownsRow _ _ _ _ _ _ _
          rw [e]
          try simp only [List.length_append, List.length_cons, List.length_nil, List.flatMap_append, List.flatMap_cons, List.flatMap_nil, List.append_nil] at this ⊢
          exact this
        rw [rounds_succ]
        go_wp2_with fail
        go_roundw
        case rel => exact ⟨k + 1, by omega, by go_num, OF, B2⟩
        case measure => simp [intOf]; omega
      · go_wp2_with fail
        rw [HK.out]
        simp only [Result.andThen_ok, Oper.upon]
        refine (‹∀ (a : Act) (w : World), wpList _ _ _ _ a w → _› _ _ ?_)
        refine Go.Great.wpList_allocTo rfl (some 5) rfl (.pointer (some ⟨wr.heap.size, 0, none⟩)) (.cells #[.bool false, .int .i64 0, .int .i64 0, .int .i64 0, .bool false, .bool false, .bool false, .bool false, .bool false, .bool false, .int .i64 0, .int .i64 0, .int .i64 0, .bool false, .bool false, .bool false, .bool false, .bool false] 31) (by kernel_rfl) ?_
        simp only [Act.put, List.setIfInBounds_toArray, List.set_cons_zero, List.set_cons_succ]
        have TH : (wr.alloc (.cells #[.bool false, .int .i64 0, .int .i64 0, .int .i64 0, .bool false, .bool false, .bool false, .bool false, .bool false, .bool false, .int .i64 0, .int .i64 0, .int .i64 0, .bool false, .bool false, .bool false, .bool false, .bool false] 31)).there wr.heap.size 0 18 := there_block (own1 wr _)
        refine store_pat wr.heap.size 0 #[.bool true, .int .i64 t0, .int .i64 p0, .int .i64 q0, .bool x0, .bool y0, .bool z0, .bool g0, .bool d0, .bool true, .int .i64 t1, .int .i64 p1, .int .i64 q1, .bool x1, .bool y1, .bool z1, .bool g1, .bool d1] rfl rfl TH set_info (by simp [Value.oneCell']) ?_
        have R : Hid (((wr.alloc (.cells #[.bool false, .int .i64 0, .int .i64 0, .int .i64 0, .bool false, .bool false, .bool false, .bool false, .bool false, .bool false, .int .i64 0, .int .i64 0, .int .i64 0, .bool false, .bool false, .bool false, .bool false, .bool false] 31)).setCells wr.heap.size 0 [.bool true, .int .i64 t0, .int .i64 p0, .int .i64 q0, .bool x0, .bool y0, .bool z0, .bool g0, .bool d0, .bool true, .int .i64 t1, .int .i64 p1, .int .i64 q1, .bool x1, .bool y1, .bool z1, .bool g1, .bool d1]).rangeAt wr.heap.size 0 [.bool true, .int .i64 t0, .int .i64 p0, .int .i64 q0, .bool x0, .bool y0, .bool z0, .bool g0, .bool d0, .bool true, .int .i64 t1, .int .i64 p1, .int .i64 q1, .bool x1, .bool y1, .bool z1, .bool g1, .bool d1]) := World.rangeAt_setCells_same _ wr.heap.size 0 _ TH
        have BW : Below wr.heap.size wr ((wr.alloc (.cells #[.bool false, .int .i64 0, .int .i64 0, .int .i64 0, .bool false, .bool false, .bool false, .bool false, .bool false, .bool false, .int .i64 0, .int .i64 0, .int .i64 0, .bool false, .bool false, .bool false, .bool false, .bool false] 31)).setCells wr.heap.size 0 [.bool true, .int .i64 t0, .int .i64 p0, .int .i64 q0, .bool x0, .bool y0, .bool z0, .bool g0, .bool d0, .bool true, .int .i64 t1, .int .i64 p1, .int .i64 q1, .bool x1, .bool y1, .bool z1, .bool g1, .bool d1]) := below_setCells (Go.Joins.below_alloc1 wr _) _ _ _ (Nat.le_refl _)
        have O0 : Hid (((wr.alloc (.cells #[.bool false, .int .i64 0, .int .i64 0, .int .i64 0, .bool false, .bool false, .bool false, .bool false, .bool false, .bool false, .int .i64 0, .int .i64 0, .int .i64 0, .bool false, .bool false, .bool false, .bool false, .bool false] 31)).setCells wr.heap.size 0 [.bool true, .int .i64 t0, .int .i64 p0, .int .i64 q0, .bool x0, .bool y0, .bool z0, .bool g0, .bool d0, .bool true, .int .i64 t1, .int .i64 p1, .int .i64 q1, .bool x1, .bool y1, .bool z1, .bool g1, .bool d1]).ownsRow w.heap.size 30 9 u3 (linesT T (2 * k)).length ((linesT T (2 * k)).flatMap Ln.enc)) := own_keep O.out BW
        have B0 : Hid (Below w.heap.size w ((wr.alloc (.cells #[.bool false, .int .i64 0, .int .i64 0, .int .i64 0, .bool false, .bool false, .bool false, .bool false, .bool false, .bool false, .int .i64 0, .int .i64 0, .int .i64 0, .bool false, .bool false, .bool false, .bool false, .bool false] 31)).setCells wr.heap.size 0 [.bool true, .int .i64 t0, .int .i64 p0, .int .i64 q0, .bool x0, .bool y0, .bool z0, .bool g0, .bool d0, .bool true, .int .i64 t1, .int .i64 p1, .int .i64 q1, .bool x1, .bool y1, .bool z1, .bool g1, .bool d1])) := below_then B.out BW
        clear TH BW HK
        simp only [List.toList_toArray]
        generalize (wr.alloc (.cells #[.bool false, .int .i64 0, .int .i64 0, .int .i64 0, .bool false, .bool false, .bool false, .bool false, .bool false, .bool false, .int .i64 0, .int .i64 0, .int .i64 0, .bool false, .bool false, .bool false, .bool false, .bool false] 31)).setCells wr.heap.size 0 [.bool true, .int .i64 t0, .int .i64 p0, .int .i64 q0, .bool x0, .bool y0, .bool z0, .bool g0, .bool d0, .bool true, .int .i64 t1, .int .i64 p1, .int .i64 q1, .bool x1, .bool y1, .bool z1, .bool g1, .bool d1] = U0 at R O0 B0 ⊢
        go_step
        simp only [Exit.then]
        refine (‹∀ (a : Act) (w : World), Code.wp _ _ _ a w → _› _ _ ?_)
        go_step
        go_step
        refine load_pat wr.heap.size 0 [.bool true, .int .i64 t0, .int .i64 p0, .int .i64 q0, .bool x0, .bool y0, .bool z0, .bool g0, .bool d0, .bool true, .int .i64 t1, .int .i64 p1, .int .i64 q1, .bool x1, .bool y1, .bool z1, .bool g1, .bool d1] (.array 2 30) rfl R.out Tryd.underlying31 rfl set_info ?_
        simp only [Act.put, List.setIfInBounds_toArray, List.set_cons_zero, List.set_cons_succ]
        clear R
        go_wp2_with fail
        refine wp_loop_rounds 3 ?_
        rw [rounds_succ]
        have OW : Hid ((((U0.alloc (.cells #[.bool true, .int .i64 t0, .int .i64 p0, .int .i64 q0, .bool x0, .bool y0, .bool z0, .bool g0, .bool d0] 30)).alloc (.cells #[.bool true, .int .i64 t0, .int .i64 p0, .int .i64 q0, .bool x0, .bool y0, .bool z0, .bool g0, .bool d0] 30))).ownsRow w.heap.size 30 9 u3 ((linesT T (2 * k)).length) ((linesT T (2 * k)).flatMap Ln.enc)) := own_keep O0.out (Go.Joins.below_alloc2 _ _ _)
        have NW : Hid (∀ j x, ([.bool true, .int .i64 t0, .int .i64 p0, .int .i64 q0, .bool x0, .bool y0, .bool z0, .bool g0, .bool d0] : List Value)[j]? = some x → ((U0.alloc (.cells #[.bool true, .int .i64 t0, .int .i64 p0, .int .i64 q0, .bool x0, .bool y0, .bool z0, .bool g0, .bool d0] 30)).alloc (.cells #[.bool true, .int .i64 t0, .int .i64 p0, .int .i64 q0, .bool x0, .bool y0, .bool z0, .bool g0, .bool d0] 30)).cell? ((⟨U0.heap.size + 1, 0, none⟩ : Addr).add j) = some x) := news_cells U0 _ #[.bool true, .int .i64 t0, .int .i64 p0, .int .i64 q0, .bool x0, .bool y0, .bool z0, .bool g0, .bool d0] 30
        have ON : Hid (∀ x ∈ ([.bool true, .int .i64 t0, .int .i64 p0, .int .i64 q0, .bool x0, .bool y0, .bool z0, .bool g0, .bool d0] : List Value), x.oneCell' = true) := by show ∀ x ∈ ([.bool true, .int .i64 t0, .int .i64 p0, .int .i64 q0, .bool x0, .bool y0, .bool z0, .bool g0, .bool d0] : List Value), x.oneCell' = true; simp [Value.oneCell']
        have HZ : Hid (w.heap.size ≤ ((U0.alloc (.cells #[.bool true, .int .i64 t0, .int .i64 p0, .int .i64 q0, .bool x0, .bool y0, .bool z0, .bool g0, .bool d0] 30)).alloc (.cells #[.bool true, .int .i64 t0, .int .i64 p0, .int .i64 q0, .bool x0, .bool y0, .bool z0, .bool g0, .bool d0] 30)).heap.size) := by show _ ≤ _; rw [World.size_alloc, World.size_alloc]; have := B0.out.size; omega
        have MX : Hid ((linesT T (2 * k)).length + 1 ≤ maxLen) := by show _ ≤ _; unfold maxLen; have := LN.out; omega
        have BY : Hid (((linesT T (2 * k)).length + 1) * 40 ≤ 140737488355328) := by show _ ≤ _; have := LN.out; omega
        go_wp2_with (at_builtin; refine wpList_append_own _ rfl _ _ 37 rfl w.heap.size 30 i0 zline 9 40 Tryd.underlying37 hi hz0 hz1 hz2 rfl (by decide) u3 ((linesT T (2 * k)).length) ((linesT T (2 * k)).flatMap Ln.enc) rfl OW.out ⟨U0.heap.size + 1, 0, none⟩ 1 1 ([.bool true, .int .i64 t0, .int .i64 p0, .int .i64 q0, .bool x0, .bool y0, .bool z0, .bool g0, .bool d0] : List Value) rfl rfl NW.out ON.out MX.out BY.out HZ.out ?_; intro v1 a0 hown hg hnil; have O1 : Hid (a0.ownsRow w.heap.size 30 9 v1 ((linesT T (2 * k)).length + 1) (((linesT T (2 * k)).flatMap Ln.enc) ++ [.bool true, .int .i64 t0, .int .i64 p0, .int .i64 q0, .bool x0, .bool y0, .bool z0, .bool g0, .bool d0])) := hown; have B1 : Hid (Below w.heap.size w a0) := below_grown (base := 0) (B0.out.trans (Go.Joins.below_le (Go.Joins.below_alloc2 U0 _ _) B0.out.size)) OW.out hg; clear hown hg hnil OW NW ON HZ MX BY)
        go_wp2_with fail
        rw [rounds_succ]
        have OW : Hid ((((a0.alloc (.cells #[.bool true, .int .i64 t1, .int .i64 p1, .int .i64 q1, .bool x1, .bool y1, .bool z1, .bool g1, .bool d1] 30)).alloc (.cells #[.bool true, .int .i64 t1, .int .i64 p1, .int .i64 q1, .bool x1, .bool y1, .bool z1, .bool g1, .bool d1] 30))).ownsRow w.heap.size 30 9 v1 ((linesT T (2 * k)).length + 1) (((linesT T (2 * k)).flatMap Ln.enc) ++ [.bool true, .int .i64 t0, .int .i64 p0, .int .i64 q0, .bool x0, .bool y0, .bool z0, .bool g0, .bool d0])) := own_keep O1.out (Go.Joins.below_alloc2 _ _ _)
        have NW : Hid (∀ j x, ([.bool true, .int .i64 t1, .int .i64 p1, .int .i64 q1, .bool x1, .bool y1, .bool z1, .bool g1, .bool d1] : List Value)[j]? = some x → ((a0.alloc (.cells #[.bool true, .int .i64 t1, .int .i64 p1, .int .i64 q1, .bool x1, .bool y1, .bool z1, .bool g1, .bool d1] 30)).alloc (.cells #[.bool true, .int .i64 t1, .int .i64 p1, .int .i64 q1, .bool x1, .bool y1, .bool z1, .bool g1, .bool d1] 30)).cell? ((⟨a0.heap.size + 1, 0, none⟩ : Addr).add j) = some x) := news_cells a0 _ #[.bool true, .int .i64 t1, .int .i64 p1, .int .i64 q1, .bool x1, .bool y1, .bool z1, .bool g1, .bool d1] 30
        have ON : Hid (∀ x ∈ ([.bool true, .int .i64 t1, .int .i64 p1, .int .i64 q1, .bool x1, .bool y1, .bool z1, .bool g1, .bool d1] : List Value), x.oneCell' = true) := by show ∀ x ∈ ([.bool true, .int .i64 t1, .int .i64 p1, .int .i64 q1, .bool x1, .bool y1, .bool z1, .bool g1, .bool d1] : List Value), x.oneCell' = true; simp [Value.oneCell']
        have HZ : Hid (w.heap.size ≤ ((a0.alloc (.cells #[.bool true, .int .i64 t1, .int .i64 p1, .int .i64 q1, .bool x1, .bool y1, .bool z1, .bool g1, .bool d1] 30)).alloc (.cells #[.bool true, .int .i64 t1, .int .i64 p1, .int .i64 q1, .bool x1, .bool y1, .bool z1, .bool g1, .bool d1] 30)).heap.size) := by show _ ≤ _; rw [World.size_alloc, World.size_alloc]; have := B1.out.size; omega
        have MX : Hid ((linesT T (2 * k)).length + 1 + 1 ≤ maxLen) := by show _ ≤ _; unfold maxLen; have := LN.out; omega
        have BY : Hid (((linesT T (2 * k)).length + 1 + 1) * 40 ≤ 140737488355328) := by show _ ≤ _; have := LN.out; omega
        go_wp2_with (at_builtin; refine wpList_append_own _ rfl _ _ 37 rfl w.heap.size 30 i0 zline 9 40 Tryd.underlying37 hi hz0 hz1 hz2 rfl (by decide) v1 ((linesT T (2 * k)).length + 1) (((linesT T (2 * k)).flatMap Ln.enc) ++ [.bool true, .int .i64 t0, .int .i64 p0, .int .i64 q0, .bool x0, .bool y0, .bool z0, .bool g0, .bool d0]) rfl OW.out ⟨a0.heap.size + 1, 0, none⟩ 1 1 ([.bool true, .int .i64 t1, .int .i64 p1, .int .i64 q1, .bool x1, .bool y1, .bool z1, .bool g1, .bool d1] : List Value) rfl rfl NW.out ON.out MX.out BY.out HZ.out ?_; intro v2 a1 hown hg hnil; have O2 : Hid (a1.ownsRow w.heap.size 30 9 v2 ((linesT T (2 * k)).length + 1 + 1) ((((linesT T (2 * k)).flatMap Ln.enc) ++ [.bool true, .int .i64 t0, .int .i64 p0, .int .i64 q0, .bool x0, .bool y0, .bool z0, .bool g0, .bool d0]) ++ [.bool true, .int .i64 t1, .int .i64 p1, .int .i64 q1, .bool x1, .bool y1, .bool z1, .bool g1, .bool d1])) := hown; have B2 : Hid (Below w.heap.size w a1) := below_grown (base := 0) (B1.out.trans (Go.Joins.below_le (Go.Joins.below_alloc2 a0 _ _) B1.out.size)) OW.out hg; clear hown hg hnil OW NW ON HZ MX BY)
        go_wp2_with fail
        have OF : Hid (a1.ownsRow w.heap.size 30 9 v2 (linesT T (2 * (k + 1))).length ((linesT T (2 * (k + 1))).flatMap Ln.enc)) := by
          have e : linesT T (2 * (k + 1)) = linesT T (2 * k) ++ [(⟨true, t0, p0, q0, x0, y0, z0, g0, d0⟩ : Ln)] ++ [(⟨true, t1, p1, q1, x1, y1, z1, g1, d1⟩ : Ln)] := by
            rw [show 2 * (k + 1) = 2 * k + 1 + 1 by omega, lines_yes T (2 * k + 1) (by rw [H1.out]), lines_yes T (2 * k) (by rw [H0.out]), H0.out, H1.out]
          have := O2.out
          show World.ownsRow _ _ _ _ _ _ _
          rw [e]
          try simp only [List.length_append, List.length_cons, List.length_nil, List.flatMap_append, List.flatMap_cons, List.flatMap_nil, List.append_nil] at this ⊢
          exact this
        rw [rounds_succ]
        go_wp2_with fail
        go_roundw
        case rel => exact ⟨k + 1, by omega, by go_num, OF, B2⟩
        case measure => simp [intOf]; omega
    · obtain rfl : k = 8 := by omega
      go_wp2_with fail
      go_ret
      exact ⟨_, rfl, O.out, B.out⟩
end Go.Proofs.YtmkjdmdjlmlmmaaDoor.Tl
namespace Go.Proofs.YtmkjdmdjlmlmmaaDoor.Tl
open Go.ChangeShapes Go.WideShapes Go.ChangeAt Go.RowKit Go.Maps
set_option linter.unusedSimpArgs false
set_option linter.unusedVariables false
set_option maxRecDepth 8000

def T0 : Nat → Ln := fun _ => Ln.zero
theorem flat_get (T : Nat → Ln) (q r : Nat) (q16 : q < 16) (r9 : r < 9) : (flatT T)[q * 9 + r]? = (T q).enc[r]? := by
  rcases (show q = 0 ∨ q = 1 ∨ q = 2 ∨ q = 3 ∨ q = 4 ∨ q = 5 ∨ q = 6 ∨ q = 7 ∨ q = 8 ∨ q = 9 ∨ q = 10 ∨ q = 11 ∨ q = 12 ∨ q = 13 ∨ q = 14 ∨ q = 15 by omega) with rfl | rfl | rfl | rfl | rfl | rfl | rfl | rfl | rfl | rfl | rfl | rfl | rfl | rfl | rfl | rfl <;> rcases (show r = 0 ∨ r = 1 ∨ r = 2 ∨ r = 3 ∨ r = 4 ∨ r = 5 ∨ r = 6 ∨ r = 7 ∨ r = 8 by omega) with rfl | rfl | rfl | rfl | rfl | rfl | rfl | rfl | rfl <;> rfl
theorem zero30 : ∃ Zs : Array Value, (∀ W : World, (zeroValue 34).run Tryd.prog W = .ok (.agg Zs) W) ∧ Zs.size = 144 ∧ ∀ q r, q < 16 → r < 9 → Zs[q * 9 + r]? = Ln.zero.enc[r]? :=
  ⟨(flatT T0).toArray, fun W => by kernel_rfl, rfl, fun q r h1 h2 => by rw [List.getElem?_toArray]; exact flat_get T0 q r h1 h2⟩
theorem IsTlb.made (w : World) (Zs : Array Value) (hs : Zs.size = 144) (hz : ∀ q r, q < 16 → r < 9 → Zs[q * 9 + r]? = Ln.zero.enc[r]?) : IsTlb (w.alloc (.cells Zs 34)) w.heap.size T0 := by
  refine ⟨fun i hi j v hv => ?_, ?_, by simp⟩
  · have hj : j < 9 := (List.getElem?_eq_some_iff.1 hv).1
    exact (Go.Joins.cell_of_block (own1 w _) _).trans ((hz i j hi hj).trans hv)
  · have := there_block (own1 w (.cells Zs 34))
    rwa [hs] at this
/-- a store of its own, made behind w -/
def Own (w W : World) (b : Nat) (T : Nat → Ln) : Prop := IsTlb W b T ∧ Below w.heap.size w W ∧ w.heap.size ≤ b
theorem Own.next {w W W' : World} {b : Nat} {T T' : Nat → Ln} (h : Own w W b T) (hT : IsTlb W' b T') (hg : W.grownBy W' (some b)) : Own w W' b T' :=
  ⟨hT, h.2.1.trans ⟨hg.os, hg.tape, hg.output, hg.size, fun k hk => hg.block k (Nat.lt_of_lt_of_le hk h.2.1.size) (fun e => by have := Option.some.inj e; have := h.2.2; omega)⟩, h.2.2⟩
theorem Own.grow {w W W' : World} {b : Nat} {T : Nat → Ln} (h : Own w W b T) (hb : Below W.heap.size W W') : Own w W' b T := ⟨h.1.below hb, below_then h.2.1 hb, h.2.2⟩
def l9 : Ln := ⟨true, 1, 9, 5, false, false, false, false, false⟩
theorem own_len {w : World} {base n e s : Nat} {v : Value} {xs : List Value} (h : w.ownsRow base e s v n xs) : ∃ p c, v = .slice p n c := by
  obtain ⟨h1, h2 | ⟨g', cap', cur, e1, e2, e3, e4⟩⟩ := h
  · exact ⟨none, 0, by rw [h2.1, h2.2]⟩
  · exact ⟨_, cap', e1⟩
end Go.Proofs.YtmkjdmdjlmlmmaaDoor.Tl
namespace Go.Proofs.YtmkjdmdjlmlmmaaDoor.Tl
open Go.ChangeShapes Go.WideShapes Go.ChangeAt Go.RowKit Go.Maps
set_option linter.unusedSimpArgs false
set_option linter.unusedVariables false
set_option maxRecDepth 8000

theorem args_stay {H : Type} {enc : TypeId × Value → H} {P : Program} {W W' : World} (hl : laidOutB P = true) (hb : Below W.heap.size W W') :
    ∀ {ts : List TypeId} {vs : List Value} {ds : List (DataW H)} {ps : List MemPlace}, (ts.all fun t => P.readableRec t && decide (t < P.types.size)) = true →
      DataW.TrodAll enc P W 0 (fun _ => true) true ts vs ds ps → (∀ x ∈ ps, x.block < W.heap.size) → DataW.TrodAll enc P W' 0 (fun b => decide (b < W.heap.size)) true ts vs ds ps
  | [], vs, ds, ps, _, h, _ => by
    obtain ⟨rfl, rfl, rfl⟩ := trodAll_nil h
    exact trodAll_mk0
  | t :: ts, vs, ds, ps, ha, h, hp => by
    obtain ⟨v, vs0, d, ds0, p, q, rfl, rfl, rfl, h0, r0⟩ := trodAll_cons h
    simp only [List.all_cons, Bool.and_eq_true, decide_eq_true_eq] at ha
    exact trodAll_cons_mk (Below.trod hl ha.1.1 ha.1.2 h0 hb (fun x hx => hp x (List.mem_append_left _ hx)))
      (args_stay hl hb (by simpa using ha.2) r0 (fun x hx => hp x (List.mem_append_right _ hx)))

theorem cell_of {P : Program} {t n : Nat} {cs : List Value} {c v : Value} (hc : P.cellsOf t = 1) (h : (cs.drop n).take (P.cellsOf t) = [v]) (hn : cs[n]? = some c) : c = v := by
  rw [hc] at h
  have e : ((cs.drop n).take 1)[0]? = some c := by rw [List.getElem?_take, if_pos (by omega), List.getElem?_drop]; simpa using hn
  rw [h] at e
  simpa using e.symm
theorem wf_i64 {x : Int} (h : (Lit.int .i64 x).wf = true) : -9223372036854775808 ≤ x ∧ x ≤ 9223372036854775807 := by simp [Lit.wf, IntKind.min, IntKind.max, IntKind.signed, IntKind.bits] at h; omega
theorem array9 {α : Type} {cs : Array α} (h : cs.size = 9) : ∃ c0 c1 c2 c3 c4 c5 c6 c7 c8, cs = #[c0, c1, c2, c3, c4, c5, c6, c7, c8] := by
  obtain ⟨l⟩ := cs
  match l, h with
  | [c0, c1, c2, c3, c4, c5, c6, c7, c8], _ => exact ⟨c0, c1, c2, c3, c4, c5, c6, c7, c8, rfl⟩
theorem cell_of2 {P : Program} {t u n k : Nat} {cs : List Value} {c v : Value} (hu : P.cellsOf u = 3) (hk : k < 3) (hc : P.cellsOf t = 1) (h : (((cs.drop n).take (P.cellsOf u)).drop k).take (P.cellsOf t) = [v]) (hn : cs[n + k]? = some c) : c = v := by
  rw [hc, hu] at h
  have e : ((((cs.drop n).take 3).drop k).take 1)[0]? = some c := by rw [List.getElem?_take, if_pos (by omega), List.getElem?_drop, List.getElem?_take, if_pos (by omega), List.getElem?_drop]; simpa using hn
  rw [h] at e
  simpa using e.symm
theorem cellsB : Tryd.prog.cellsOf 4 = 1 := by kernel_rfl
theorem cellsI : Tryd.prog.cellsOf 3 = 1 := by kernel_rfl
theorem cellsL : Tryd.prog.cellsOf 30 = 9 := by kernel_rfl
theorem cellsP : Tryd.prog.cellsOf 28 = 3 := by kernel_rfl
theorem open_line {H : Type} {enc : TypeId × Value → H} {W : World} {r : Reach} {b0 base : Nat} {sp : Nat → Bool} {held : Bool} {v : Value} {x : DataW H} {ps : List MemPlace}
    (hv : Value.okWide Tryd.prog W r b0 30 v) (h : DataW.Trod enc Tryd.prog W base sp held 30 v x ps) :
    ∃ l : Ln, v = l.val ∧ (Lit.int .i64 l.t).wf = true ∧ (Lit.int .i64 l.p).wf = true ∧ (Lit.int .i64 l.f).wf = true := by
  obtain ⟨cs, rfl, hsz⟩ := okWide_struct Tryd.underlying30 hv
  obtain ⟨c0, c1, c2, c3, c4, c5, c6, c7, c8, rfl⟩ := array9 (hsz.trans cellsL)
  obtain ⟨fuel, hf⟩ := h
  obtain ⟨xs, n, _, _, hl, hlen, hf⟩ := DataW.trod_struct Tryd.underlying30 hf
  have hg : ∀ i, i < 7 → ∃ y, xs[i]? = some y := fun i hi => ⟨_, List.getElem?_eq_getElem (by rw [hlen]; exact hi)⟩
  obtain ⟨y0, k0⟩ := hg 0 (by omega)
  obtain ⟨y1, k1⟩ := hg 1 (by omega)
  obtain ⟨y2, k2⟩ := hg 2 (by omega)
  obtain ⟨y3, k3⟩ := hg 3 (by omega)
  obtain ⟨y4, k4⟩ := hg 4 (by omega)
  obtain ⟨y5, k5⟩ := hg 5 (by omega)
  obtain ⟨y6, k6⟩ := hg 6 (by omega)
  obtain ⟨a0, e0, _⟩ := DataW.trod_bool Tryd.underlying4 ((hf 0 _ rfl).trans k0)
  obtain ⟨a1, e1, _, w1⟩ := DataW.trod_int Tryd.underlying3 ((hf 1 _ rfl).trans k1)
  obtain ⟨a2, e2, _, w2⟩ := DataW.trod_int Tryd.underlying3 ((hf 2 _ rfl).trans k2)
  obtain ⟨a3, e3, _, w3⟩ := DataW.trod_int Tryd.underlying3 ((hf 3 _ rfl).trans k3)
  obtain ⟨zs, m, _, _, jl, jlen, jf⟩ := DataW.trod_struct Tryd.underlying28 ((hf 4 _ rfl).trans k4)
  have jg : ∀ i, i < 3 → ∃ y, zs[i]? = some y := fun i hi => ⟨_, List.getElem?_eq_getElem (by rw [jlen]; exact hi)⟩
  obtain ⟨z0, m0⟩ := jg 0 (by omega)
  obtain ⟨z1, m1⟩ := jg 1 (by omega)
  obtain ⟨z2, m2⟩ := jg 2 (by omega)
  obtain ⟨a4, e4, _⟩ := DataW.trod_bool Tryd.underlying4 ((jf 0 _ rfl).trans m0)
  obtain ⟨a5, e5, _⟩ := DataW.trod_bool Tryd.underlying4 ((jf 1 _ rfl).trans m1)
  obtain ⟨a6, e6, _⟩ := DataW.trod_bool Tryd.underlying4 ((jf 2 _ rfl).trans m2)
  obtain ⟨a7, e7, _⟩ := DataW.trod_bool Tryd.underlying4 ((hf 5 _ rfl).trans k5)
  obtain ⟨a8, e8, _⟩ := DataW.trod_bool Tryd.underlying4 ((hf 6 _ rfl).trans k6)
  obtain rfl := cell_of cellsB e0 (c := c0) rfl
  obtain rfl := cell_of cellsI e1 (c := c1) rfl
  obtain rfl := cell_of cellsI e2 (c := c2) rfl
  obtain rfl := cell_of cellsI e3 (c := c3) rfl
  obtain rfl := cell_of2 (n := 4) (k := 0) cellsP (by omega) cellsB e4 (c := c4) rfl
  obtain rfl := cell_of2 (n := 4) (k := 1) cellsP (by omega) cellsB e5 (c := c5) rfl
  obtain rfl := cell_of2 (n := 4) (k := 2) cellsP (by omega) cellsB e6 (c := c6) rfl
  obtain rfl := cell_of cellsB e7 (c := c7) rfl
  obtain rfl := cell_of cellsB e8 (c := c8) rfl
  exact ⟨⟨_, _, _, _, _, _, _, _, _⟩, rfl, w1, w2, w3⟩
/-- a store with one line, or none -/
def oneT (i0 : Nat) (m : Ln) : Nat → Ln := fun i => if i = i0 then m else Ln.zero
theorem one_drop (i0 : Nat) (m : Ln) (f : Ln → Bool) (i : Nat) (hi : i < 16) : dropT (oneT i0 m) f 16 i = oneT i0 (if f m then Ln.zero else m) i := by
  unfold dropT oneT
  rw [if_pos hi]
  by_cases c : i = i0
  · simp only [if_pos c]
  · simp only [if_neg c]
    split <;> rfl
theorem one_fill (y : Int) (l : Ln) (i : Nat) (hi : i < 16) : fillT T0 y l i = oneT (2 * (l.p % 8).toNat + y.toNat) l i := by
  unfold fillT oneT dropT T0
  by_cases c : i = 2 * (l.p % 8).toNat + y.toNat
  · simp only [if_pos c]
  · simp only [if_neg c, if_pos hi]
    split <;> rfl
theorem zero_fits (tag page : Int) : Ln.zero.fits tag page = false := rfl
theorem one_find (y : Nat) (hy : y < 2) (m : Ln) (tag p : Int) (hp : 0 ≤ p) : findT (oneT (2 * (p % 8).toNat + y) m) tag p = if m.fits tag p then (m, true) else (Ln.zero, false) := by
  unfold findT oneT
  rw [if_neg (by omega)]
  generalize (p % 8).toNat = s
  rcases (show y = 0 ∨ y = 1 by omega) with rfl | rfl
  · have a : ¬ (2 * s + 1 = 2 * s + 0) := by omega
    have b : 2 * s = 2 * s + 0 := by omega
    simp only [if_pos b, if_neg a, zero_fits]
    cases m.fits tag p <;> simp
  · have a : ¬ (2 * s = 2 * s + 1) := by omega
    simp only [if_neg a, if_true, zero_fits]
    cases m.fits tag p <;> simp
end Go.Proofs.YtmkjdmdjlmlmmaaDoor.Tl
