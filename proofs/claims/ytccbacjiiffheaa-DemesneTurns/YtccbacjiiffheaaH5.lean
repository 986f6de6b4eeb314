/- The queue: Line; two lists alike; awake; the calls that come in. -/
import Derived.Test.YtccbacjiiffheaaH4
import Derived.Maps.AppendAt
import Derived.Deep.Slices
import Derived.Deep.RegionLaw
namespace Go.Proofs.Ytccbacjiiffheaa
open Go.ChangeShapes Go.WideShapes Go.ChangeAt Go.RowKit Go.Maps
set_option linter.unusedSimpArgs false
set_option linter.unusedVariables false

/-- the slice at p has just these numbers, in a block that isn't below base -/
def IsI (w : World) (p : Option Addr) (L : List Int) (base : Nat) : Prop := ∀ i (h : i < L.length), ∃ g, p = some ⟨g, 0, none⟩ ∧ base ≤ g ∧ g < w.heap.size ∧ w.cell? ⟨g, i, none⟩ = some (.int .i64 L[i])
theorem IsI.below {w w' : World} {p : Option Addr} {L : List Int} {base : Nat} (h : IsI w p L base) (hb : Below w.heap.size w w') : IsI w' p L base := fun i hi => by
  obtain ⟨g, e, l1, l2, c⟩ := h i hi
  exact ⟨g, e, l1, Nat.lt_of_lt_of_le l2 hb.size, (World.cell?_of_block (hb.block g l2)).trans c⟩
theorem IsI.kb {w w' : World} {p : Option Addr} {L : List Int} {base b : Nat} (h : IsI w p L base) (hb : Kb b w w') (l : b < base) : IsI w' p L base := fun i hi => by
  obtain ⟨g, e, l1, l2, c⟩ := h i hi
  exact ⟨g, e, l1, Nat.lt_of_lt_of_le l2 hb.size, (hb.cell l2 (by omega)).trans c⟩
theorem infoI : ∃ i, Try.prog.info? 3 = some i ∧ i.zero = some (.int .i64 0) ∧ i.size = 1 ∧ i.bytes = 8 := ⟨_, rfl, by kernel_rfl, by kernel_rfl, by kernel_rfl⟩
theorem slice_h (b n : Nat) (hn : n ≤ 16) (W : World) : (Instr.sliceAt 68 (.pointer (some ⟨b, 3, none⟩)) none (some (.int .i64 (n : Int))) none).run Try.prog W = .ok (.slice (some ⟨b, 3, none⟩) n 16) W := by
  rw [run_sliceAt_array_h W _ _ (by kernel_rfl) .i64 (n : Int) (by omega) (by rw [lenA]; omega), elemA, sizeI, lenA]
  show Result.ok (slicedAt _ _ _ _ _) W = _
  rw [slicedAt]
  simp [Addr.add]
theorem own_of_row {w w' : World} {v : Value} {L : List Int} (h : w'.ownsRow w.heap.size 3 1 v L.length (L.map (Value.int .i64))) : ∃ p c, v = .slice p L.length c ∧ IsI w' p L w.heap.size := by
  have hc := fun g (hg : v.ownBlock = some g) => h.cells (g := g) hg
  obtain ⟨hl, ⟨hv, h0⟩ | ⟨g, cap, cur, hv, hb, hblk, _⟩⟩ := h
  · exact ⟨none, 0, by rw [hv, h0], fun i hi => absurd hi (by omega)⟩
  · refine ⟨_, _, hv, fun i hi => ⟨g, rfl, hb, blk_lt hblk, ?_⟩⟩
    have := hc g (by rw [hv]; rfl) i (.int .i64 L[i]) (by rw [List.getElem?_map, List.getElem?_eq_getElem hi]; rfl)
    have e : (Addr.add ⟨g, 0, none⟩ i) = ⟨g, i, none⟩ := by
      unfold Addr.add
      by_cases q : i = 0
      · rw [if_pos q]; subst q; rfl
      · rw [if_neg q]; simp
    rw [e] at this; exact this
theorem below_drewN {n m : Nat} {w W : World} (h : Below n w W) : Below n w (W.drewN m) := ⟨h.os, h.tape, h.output, h.size, h.block⟩
/-- an append whose run is known, as a step of a region that draws its order -/
theorem step_app {P : Program} {ops : Array Oper} {o : Oper} {a : Act} {w : World} {K : Act → World → Prop} {Q : Exit → Act → World → Prop} {E : Prop} (hgd : o.guard = none) (s x : Operand) (t : TypeId)
    (ho : o.op = .call { callee := .builtin .append, args := #[s, x], argTypes := #[t, t] }) (vs vx : Value) (hs : a.eval s = vs) (hx : a.eval x = vx) (v' : Value) (w1 : World)
    (hr : (Builtin.append_ #[t, t] o.type #[vs, vx]).run P w = .ok v' w1) (h : K (a.put o.dst v') w1) :
    if Region.wanted o (yielded ops a.tmps) = true then Oper.wp P o a w K Q else E := by
  have hw : Region.wanted o (yielded ops a.tmps) = true := by simp [Region.wanted, hgd]
  rw [if_pos hw]
  unfold Oper.wp execOp
  simp only [ho, resolve, invoke, builtin, Sem.run_bind, Sem.run_pure, Result.andThen_ok, List.map_toArray, List.map_cons, List.map_nil, hs, hx, hr]
  exact h
set_option maxHeartbeats 1000000 in
theorem line_any (b : Nat) (S : Qu) (w : World) (h : IsQ w b S) : Calls Try.prog 20 #[.pointer (some ⟨b, 0, none⟩)] w fun e w' => (∃ p c, e = .returned (.slice p S.L.length c) ∧ IsI w' p S.L w.heap.size) ∧ Below w.heap.size w w' := by
  obtain ⟨q, t, L⟩ := S
  have lt0 := blk_lt h.blk
  have c2 := h.c2
  have few := h.few
  simp only at few c2 ⊢
  have hs := slice_h b L.length few
  obtain ⟨i0, hi, hz0, hz1, hz2⟩ := infoI
  obtain ⟨v, w1, r, ho, hg, _, _⟩ := run_append_own_at (P := Try.prog) w.drew w.heap.size 56 56 3 i0 (.int .i64 0) 1 8 Try.underlying56 hi hz0 hz1 hz2 rfl (by decide) (.slice none 0 0) 0 [] ⟨rfl, Or.inl ⟨rfl, rfl⟩⟩
    ⟨b, 3, none⟩ L.length 16 (L.map (Value.int .i64)) (by simp) (by
      intro j u hj
      rw [List.getElem?_map] at hj
      by_cases hjl : j < L.length
      · rw [List.getElem?_eq_getElem hjl] at hj
        have e : (Addr.add ⟨b, 3, none⟩ j) = ⟨b, 3 + j, none⟩ := by
          unfold Addr.add
          by_cases q : j = 0
          · rw [if_pos q]; subst q; rfl
          · rw [if_neg q]
        rw [e]
        have := h.cl j hjl
        rw [show w.drew.cell? ⟨b, 3 + j, none⟩ = w.cell? ⟨b, 3 + j, none⟩ from rfl, this]
        exact hj
      · rw [List.getElem?_eq_none (by omega)] at hj; cases hj) (by intro u hu; obtain ⟨x, _, rfl⟩ := List.mem_map.1 hu; rfl) (by unfold maxLen; omega) (by omega) (Nat.le_refl _)
  rw [List.nil_append, Nat.zero_add] at ho
  obtain ⟨p, c, rfl, hI⟩ := own_of_row (w := w) ho
  have HI : Hid (IsI w1 p L w.heap.size) := hI
  have HB : Hid (Below w.heap.size w w1) := ⟨hg.os, hg.tape, hg.output, hg.size, fun k hk => hg.block k hk (by simp [Value.ownBlock])⟩
  clear h ho hg hI
  generalize L.length = n at *
  go_enter Try.func20, Try.ntmps20
  go_wp2_with fail
  go_region_law (refine step_app rfl (.const (.slice none 0 0)) (.tmp 10) 56 rfl (.slice none 0 0) (.slice (some ⟨b, 3, none⟩) n 16) (by simp [Act.eval, Act.put]) (by simp [Act.eval, Act.put]) (.slice p n c) w1 r ?_)
  all_goals (go_wp2_with fail)
  all_goals (go_returns)
  all_goals (exact ⟨⟨p, c, rfl, HI.out⟩, HB.out⟩)
end Go.Proofs.Ytccbacjiiffheaa
