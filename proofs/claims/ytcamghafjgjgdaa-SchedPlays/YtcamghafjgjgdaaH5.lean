/- The queue: Line; two lists alike; awake; the calls that come in. -/
import Derived.Test.YtcamghafjgjgdaaH4
import Derived.Maps.AppendAt
import Derived.Deep.Slices
import Derived.Deep.RegionLaw
namespace Go.Proofs.Ytcamghafjgjgdaa
open Go.ChangeShapes Go.WideShapes Go.ChangeAt Go.RowKit Go.Maps
set_option linter.unusedSimpArgs false
set_option linter.unusedVariables false

/-- the slice at p has just these numbers, in a block that isn't below base -/
def IsI (w : World) (p : Option Addr) (L : List Int) (base : Nat) : Prop := ∀ i (h : i < L.length), ∃ g, p = some ⟨g, 0, none⟩ ∧ base ≤ g ∧ g < w.heap.size ∧ w.cell? ⟨g, i, none⟩ = some (.int .i64 L[i])
theorem IsI.below {w w' : World} {p : Option Addr} {L : List Int} {base : Nat} (h : IsI w p L base) (hb : Below w.heap.size w w') : IsI w' p L base := fun i hi => by
  obtain ⟨g, e, l1, l2, c⟩ := h i hi
  exact ⟨g, e, l1, Nat.lt_of_lt_of_le l2 hb.size, (World.cell?_of_block (hb.block g l2)).trans c⟩
theorem IsI.kb {w w' : World} {p : Option Addr} {L : List Int} {base b : Nat} (h : IsI w p L base) (hb : Kb b w w') (l : b < base) : IsI w' p L base := fun i hi => by
  obtain ⟨g, e, l1, l2, c⟩ := h i hi
  exact ⟨g, e, l1, Nat.lt_of_lt_of_le l2 hb.size, (hb.cell l2 (by omega)).trans c⟩
theorem infoI : ∃ i, Try.prog.info? 3 = some i ∧ i.zero = some (.int .i64 0) ∧ i.size = 1 ∧ i.bytes = 8 := ⟨_, rfl, by kernel_rfl, by kernel_rfl, by kernel_rfl⟩
theorem slice_h (b n : Nat) (hn : n ≤ 16) (W : World) : (Instr.sliceAt 46 (.pointer (some ⟨b, 3, none⟩)) none (some (.int .i64 (n : Int))) none).run Try.prog W = .ok (.slice (some ⟨b, 3, none⟩) n 16) W := by
  rw [run_sliceAt_array_h W _ _ (by kernel_rfl) .i64 (n : Int) (by omega) (by rw [lenA]; omega), elemA, sizeI, lenA]
  show Result.ok (slicedAt _ _ _ _ _) W = _
  rw [slicedAt]
  simp [Addr.add]
theorem own_of_row {w w' : World} {v : Value} {L : List Int} (h : w'.ownsRow w.heap.size 3 1 v L.length (L.map (Value.int .i64))) : ∃ p c, v = .slice p L.length c ∧ IsI w' p L w.heap.size := by
  have hc := fun g (hg : v.ownBlock = some g) => h.cells (g := g) hg
  obtain ⟨hl, ⟨hv, h0⟩ | ⟨g, cap, cur, hv, hb, hblk, _⟩⟩ := h
  · exact ⟨none, 0, by rw [hv, h0], fun i hi => absurd hi (by omega)⟩
  · refine ⟨_, _, hv, fun i hi => ⟨g, rfl, hb, blk_lt hblk, ?_⟩⟩
    have := hc g (by rw [hv]; rfl) i (.int .i64 L[i]) (by rw [List.getElem?_map, List.getElem?_eq_getElem hi]; rfl)
    have e : (Addr.add ⟨g, 0, none⟩ i) = ⟨g, i, none⟩ := by
      unfold Addr.add
      by_cases q : i = 0
      · rw [if_pos q]; subst q; rfl
      · rw [if_neg q]; simp
    rw [e] at this; exact this
theorem below_drewN {n m : Nat} {w W : World} (h : Below n w W) : Below n w (W.drewN m) := ⟨h.os, h.tape, h.output, h.size, h.block⟩
/-- an append whose run is known, as a step of a region that draws its order -/
theorem step_app {P : Program} {ops : Array Oper} {o : Oper} {a : Act} {w : World} {K : Act → World → Prop} {Q : Exit → Act → World → Prop} {E : Prop} (hgd : o.guard = none) (s x : Operand) (t : TypeId)
    (ho : o.op = .call { callee := .builtin .append, args := #[s, x], argTypes := #[t, t] }) (vs vx : Value) (hs : a.eval s = vs) (hx : a.eval x = vx) (v' : Value) (w1 : World)
    (hr : (Builtin.append_ #[t, t] o.type #[vs, vx]).run P w = .ok v' w1) (h : K (a.put o.dst v') w1) :
    if Region.wanted o (yielded ops a.tmps) = true then Oper.wp P o a w K Q else E := by
  have hw : Region.wanted o (yielded ops a.tmps) = true := by simp [Region.wanted, hgd]
  rw [if_pos hw]
  unfold Oper.wp execOp
  simp only [ho, resolve, invoke, builtin, Sem.run_bind, Sem.run_pure, Result.andThen_ok, List.map_toArray, List.map_cons, List.map_nil, hs, hx, hr]
  exact h
set_option maxHeartbeats 1000000 in
theorem line_any (b : Nat) (S : Qu) (w : World) (h : IsQ w b S) : Calls Try.prog 20 #[.pointer (some ⟨b, 0, none⟩)] w fun e w' => (∃ p c, e = .returned (.slice p S.L.length c) ∧ IsI w' p S.L w.heap.size) ∧ Below w.heap.size w w' := by
  obtain ⟨q, t, L⟩ := S
  have lt0 := blk_lt h.blk
  have c2 := h.c2
  have few := h.few
  simp only at few c2 ⊢
  have hs := slice_h b L.length few
  obtain ⟨i0, hi, hz0, hz1, hz2⟩ := infoI
  obtain ⟨v, w1, r, ho, hg, _, _⟩ := run_append_own_at (P := Try.prog) w.drew w.heap.size 28 28 3 i0 (.int .i64 0) 1 8 Try.underlying28 hi hz0 hz1 hz2 rfl (by decide) (.slice none 0 0) 0 [] ⟨rfl, Or.inl ⟨rfl, rfl⟩⟩
    ⟨b, 3, none⟩ L.length 16 (L.map (Value.int .i64)) (by simp) (by
      intro j u hj
      rw [List.getElem?_map] at hj
      by_cases hjl : j < L.length
      · rw [List.getElem?_eq_getElem hjl] at hj
        have e : (Addr.add ⟨b, 3, none⟩ j) = ⟨b, 3 + j, none⟩ := by
          unfold Addr.add
          by_cases q : j = 0
          · rw [if_pos q]; subst q; rfl
          · rw [if_neg q]
        rw [e]
        have := h.cl j hjl
        rw [show w.drew.cell? ⟨b, 3 + j, none⟩ = w.cell? ⟨b, 3 + j, none⟩ from rfl, this]
        exact hj
      · rw [List.getElem?_eq_none (by omega)] at hj; cases hj) (by intro u hu; obtain ⟨x, _, rfl⟩ := List.mem_map.1 hu; rfl) (by unfold maxLen; omega) (by omega) (Nat.le_refl _)
  rw [List.nil_append, Nat.zero_add] at ho
  obtain ⟨p, c, rfl, hI⟩ := own_of_row (w := w) ho
  have HI : Hid (IsI w1 p L w.heap.size) := hI
  have HB : Hid (Below w.heap.size w w1) := ⟨hg.os, hg.tape, hg.output, hg.size, fun k hk => hg.block k hk (by simp [Value.ownBlock])⟩
  clear h ho hg hI
  generalize L.length = n at *
  go_enter Try.func20, Try.ntmps20
  go_wp2_with fail
  go_region_law (refine step_app rfl (.const (.slice none 0 0)) (.tmp 10) 28 rfl (.slice none 0 0) (.slice (some ⟨b, 3, none⟩) n 16) (by simp [Act.eval, Act.put]) (by simp [Act.eval, Act.put]) (.slice p n c) w1 r ?_)
  all_goals (go_wp2_with fail)
  all_goals (go_returns)
  all_goals (exact ⟨⟨p, c, rfl, HI.out⟩, HB.out⟩)
set_option maxHeartbeats 1000000 in
theorem same_raw (n : Nat) (p1 p2 : Option Addr) (c1 c2 : Nat) (A B : Nat → Int) (r : Bool) (hn : n ≤ 1000) (w : World)
    (HA : Hid (∀ i, i < n → ∃ g, p1 = some ⟨g, 0, none⟩ ∧ g < w.heap.size ∧ w.cell? ⟨g, i, none⟩ = some (.int .i64 (A i)))) (HB : Hid (∀ i, i < n → ∃ g, p2 = some ⟨g, 0, none⟩ ∧ g < w.heap.size ∧ w.cell? ⟨g, i, none⟩ = some (.int .i64 (B i))))
    (HR : Hid (r = true ↔ ∀ i, i < n → A i = B i)) :
    Calls Try.prog 19 #[.slice p1 n c1, .slice p2 n c2] w fun e w' => e = .returned (.bool r) ∧ Below w.heap.size w w' := by
  go_enter Try.func19, Try.ntmps19
  go_wp2_with fail
  go_loopw [13] (fun x W => ∃ k : Nat, k ≤ n ∧ x = .int .i64 k ∧ Hid (∀ i, i < k → A i = B i) ∧ Hid (Below w.heap.size w W)) (fun x _ => n - (intOf x).toNat)
  case atStart => exact ⟨0, by omega, rfl, fun i hi => absurd hi (Nat.not_lt_zero _), Below.refl _ _⟩
  case round =>
    obtain ⟨k, hk, rfl, hE, hB⟩ := hrel
    by_cases hlt : k < n
    · have hd : decide ((k : Int) < (n : Int)) = true := by simp; omega
      obtain ⟨g1, e1, l1, k1⟩ := HA.out k hlt
      obtain ⟨g2, e2, l2, k2⟩ := HB.out k hlt
      have y1 : wr.cell? ⟨g1, k, none⟩ = some (.int .i64 (A k)) := (World.cell?_of_block (hB.out.block g1 l1)).trans k1
      have y2 : wr.cell? ⟨g2, k, none⟩ = some (.int .i64 (B k)) := (World.cell?_of_block (hB.out.block g2 l2)).trans k2
      have y3 : g1 < wr.heap.size := Nat.lt_of_lt_of_le l1 hB.out.size
      have y4 : g2 < wr.heap.size := Nat.lt_of_lt_of_le l2 hB.out.size
      clear k1 k2 l1 l2
      subst e1 e2
      obtain ⟨x, hx⟩ : ∃ x, x = A k := ⟨_, rfl⟩
      obtain ⟨y, hy⟩ : ∃ y, y = B k := ⟨_, rfl⟩
      rw [← hx] at y1
      rw [← hy] at y2
      have HX : Hid (x = A k) := hx
      have HY : Hid (y = B k) := hy
      clear hx hy
      by_cases c : x = y
      · have c1 : (x == y) = true := by simp [c]
        have c2 : (x != y) = false := by simp [c]
        have HE : Hid (∀ i, i < k + 1 → A i = B i) := fun i hi => by
          rcases Nat.lt_succ_iff_lt_or_eq.1 hi with z | rfl
          · exact hE.out i z
          · rw [← HX.out, ← HY.out, c]
        subst c
        go_wp2_with fail
        go_quiet (fail)
        go_wp2_with fail
        go_roundw
        case rel => exact ⟨k + 1, by omega, by go_num, HE, below_drewN hB.out⟩
        case measure => simp [intOf]; omega
      · have c1 : (x == y) = false := by simp [c]
        have c2 : (x != y) = true := by simp [c]
        have hr : r = false := by
          cases hr : r with
          | false => rfl
          | true => exact absurd (HR.out.1 hr k hlt) (by rw [← HX.out, ← HY.out]; exact c)
        have HRF : Hid (r = false) := hr
        clear hr
        go_wp2_with fail
        go_quiet (fail)
        go_wp2_with fail
        go_ret
        exact ⟨by rw [HRF.out]; rfl, below_drewN hB.out⟩
    · obtain rfl : k = n := by omega
      have hd : decide ((k : Int) < (k : Int)) = false := by simp
      have hr : r = true := HR.out.2 hE.out
      have HRT : Hid (r = true) := hr
      clear hr
      go_wp2_with fail
      go_ret
      exact ⟨by rw [HRT.out]; rfl, hB.out⟩
theorem same_ne (n m : Nat) (p1 p2 : Option Addr) (c1 c2 : Nat) (h : n ≠ m) (w : World) : Calls Try.prog 19 #[.slice p1 n c1, .slice p2 m c2] w fun e w' => e = .returned (.bool false) ∧ Below w.heap.size w w' := by
  have e1 : ((n : Int) == (m : Int)) = false := by simp; omega
  have e2 : ¬ (n : Int) = (m : Int) := by omega
  have e3 : ((n : Int) != (m : Int)) = true := by simp; omega
  go_enter Try.func19, Try.ntmps19
  go_wp2_with fail
  go_returns
  exact ⟨rfl, Below.refl _ _⟩
theorem same_any (p1 p2 : Option Addr) (c1 c2 : Nat) (L M : List Int) (b1 b2 : Nat) (hn : L.length ≤ 1000) (w : World) (h1 : IsI w p1 L b1) (h2 : IsI w p2 M b2) : Calls Try.prog 19 #[.slice p1 L.length c1, .slice p2 M.length c2] w fun e w' => e = .returned (.bool (decide (L = M))) ∧ Below w.heap.size w w' := by
  by_cases c : L.length = M.length
  · rw [← c]
    refine same_raw L.length p1 p2 c1 c2 (fun i => L[i]?.getD 0) (fun i => M[i]?.getD 0) _ hn w (fun i hi => ?_) (fun i hi => ?_) ?_
    · obtain ⟨g, e, _, l, k⟩ := h1 i hi
      exact ⟨g, e, l, by rw [k, List.getElem?_eq_getElem hi]; rfl⟩
    · obtain ⟨g, e, _, l, k⟩ := h2 i (by omega)
      exact ⟨g, e, l, by rw [k, List.getElem?_eq_getElem (by omega)]; rfl⟩
    · show decide (L = M) = true ↔ _
      rw [decide_eq_true_iff]
      constructor
      · rintro rfl i _; rfl
      · intro h
        apply List.ext_getElem c
        intro i i1 i2
        have := h i i1
        simpa [List.getElem?_eq_getElem i1, List.getElem?_eq_getElem i2] using this
  · rw [decide_eq_false (fun e => c (by rw [e]))]
    exact same_ne _ _ _ _ _ _ c w
end Go.Proofs.Ytcamghafjgjgdaa
