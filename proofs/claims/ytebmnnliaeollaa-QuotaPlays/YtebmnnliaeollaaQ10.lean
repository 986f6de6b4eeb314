/- Containers: Live. -/
import Derived.Test.YtebmnnliaeollaaQ9
namespace Go.Proofs.Ytebmnnliaeollaa
open Go.ChangeShapes Go.WideShapes Go.ChangeAt Go.RowKit Go.Maps
set_option linter.unusedSimpArgs false
set_option linter.unusedVariables false

theorem run_isAgg : ∀ W : World, (isAgg 40).run Try.prog W = .ok true W := fun W => by kernel_rfl
theorem run_sz : ∀ W : World, (sizeOf 40).run Try.prog W = .ok 5 W := fun W => by kernel_rfl
theorem ix_run (cs : Array Value) (k : Nat) (hk : k < 64) (W : World) : (Instr.index 44 (.agg cs) (.int .i64 k)).run Try.prog W = .ok (.agg (cs.extract (k * 5) (k * 5 + 5))) W := by
  have hc : (0 : Int) ≤ (k : Int) ∧ (k : Int) < ((64 : Nat) : Int) := by omega
  unfold Instr.index Go.part
  simp only [Sem.run_bind, asIntOf, Sem.run_pure, Result.andThen_ok, run_underlying Try.underlying44, if_pos hc, run_sz, run_isAgg, if_true, Int.toNat_natCast]
theorem flat_cut (T : Nat → Nd) (k : Nat) (hk : k < 64) : (flatT T 64).toArray.extract (k * 5) (k * 5 + 5) = #[.int .i64 (T k).par, .int .i64 (T k).quota, .int .i64 (T k).used, .int .i64 (T k).lent, .bool (T k).live] := by
  apply Array.ext_getElem?
  intro j
  by_cases c : j < 5
  · rw [Array.getElem?_extract, if_pos (by have : (flatT T 64).toArray.size = 320 := by rw [List.size_toArray, flat_len]
                                           omega), List.getElem?_toArray, flat_get T 64 k j hk c]
    match j, c with
    | 0, _ => rfl
    | 1, _ => rfl
    | 2, _ => rfl
    | 3, _ => rfl
    | 4, _ => rfl
  · rw [Array.getElem?_eq_none (by rw [Array.size_extract]; omega), Array.getElem?_eq_none (by simp; omega)]
theorem ixk (T : Nat → Nd) (k : Nat) (hk : k < 64) (W : World) : (Instr.index 44 (.agg (flatT T 64).toArray) (.int .i64 k)).run Try.prog W = .ok (T k).val W := by
  rw [ix_run _ k hk W, flat_cut T k hk]
theorem flat_range {w : World} {b : Nat} {T : Nat → Nd} (h : IsTree w b T) : w.rangeAt b 0 (flatT T 64) := fun j v hv => by
  have hj : j < 320 := by
    have := (List.getElem?_eq_some_iff.1 hv).1
    rw [flat_len] at this; exact this
  have e : j = j / 5 * 5 + j % 5 := by omega
  rw [e, flat_get T 64 (j / 5) (j % 5) (by omega) (by omega)] at hv
  rw [Nat.zero_add, e]
  exact h.1 (j / 5) (by omega) (j % 5) v hv
theorem int_info5 : (Try.prog.info? 3).map (fun i => (i.zero, i.size, i.bytes)) = some (some (.int .i64 0), 1, 8) := by kernel_rfl
theorem info5 {P : Program} {e : TypeId} {z : Value} {s b : Nat} (h : (P.info? e).map (fun i => (i.zero, i.size, i.bytes)) = some (some z, s, b)) : ∃ i : TypeInfo, P.info? e = some i ∧ i.zero = some z ∧ i.size = s ∧ i.bytes = b := by
  cases hq : P.info? e with
  | none => simp [hq] at h
  | some i =>
    simp [hq] at h
    exact ⟨i, rfl, h.1, h.2.1, h.2.2⟩
theorem own_keep {w w' : World} {base n e s : Nat} {v : Value} {xs : List Value} (h : w.ownsRow base e s v n xs) (hb : Below w.heap.size w w') : w'.ownsRow base e s v n xs := by
  obtain ⟨h1, h2⟩ := h
  refine ⟨h1, ?_⟩
  rcases h2 with h2 | ⟨g', cap', cur, e1, e2, e3, e4⟩
  · exact Or.inl h2
  · have hg' : g' < w.heap.size := (Array.getElem?_eq_some_iff.1 e3).1
    exact Or.inr ⟨g', cap', cur, e1, e2, (hb.block g' hg').trans e3, e4⟩
theorem own_base {w : World} {base n e s : Nat} {v : Value} {xs : List Value} (h : w.ownsRow base e s v n xs) : ∀ j, v.ownBlock = some j → base ≤ j := by
  obtain ⟨h1, h2⟩ := h
  rcases h2 with h2 | ⟨g', cap', cur, e1, e2, e3, e4⟩
  · rw [h2.1]; intro j hj; cases hj
  · rw [e1]; intro j hj; cases hj; exact e2
theorem own2b (w : World) (o p : Obj) : ((w.alloc o).alloc p).heap[w.heap.size + 1]? = some p := by
  have := own1 (w.alloc o) p
  rw [World.size_alloc] at this; exact this
theorem news_cells (u : World) (o : Obj) (C : Array Value) (t : TypeId) : ∀ j x, C.toList[j]? = some x → ((u.alloc o).alloc (.cells C t)).cell? ((⟨u.heap.size + 1, 0, none⟩ : Addr).add j) = some x := by
  intro j x hx
  rw [Addr.add_mid, Nat.zero_add]
  exact (Go.Joins.cell_of_block (own2b u o (.cells C t)) j).trans (by simpa using hx)
theorem below_grown {w U a0 : World} {v : Value} {n e s : Nat} {xs : List Value} (B : Below w.heap.size w U) (O : U.ownsRow w.heap.size e s v n xs) (hg : U.grownBy a0 v.ownBlock) : Below w.heap.size w a0 :=
  B.grown hg B.size (fun j ej => own_base O j ej)
/-- the places of the containers that are there -/
def liveL (T : Nat → Nd) : Nat → List Nat
  | 0 => []
  | m + 1 => liveL T m ++ (if (T m).live then [m] else [])
theorem live_len (T : Nat → Nd) : ∀ m, (liveL T m).length ≤ m
  | 0 => by simp [liveL]
  | m + 1 => by
    have := live_len T m
    simp only [liveL, List.length_append]
    split <;> simp <;> omega
theorem live_yes (T : Nat → Nd) (m : Nat) (h : (T m).live = true) : liveL T (m + 1) = liveL T m ++ [m] := by rw [liveL, if_pos h]
theorem live_no (T : Nat → Nd) (m : Nat) (h : (T m).live = false) : liveL T (m + 1) = liveL T m := by rw [liveL, if_neg (by rw [h]; simp), List.append_nil]
def numV (L : List Nat) : List Value := L.map fun (j : Nat) => Value.int .i64 (j : Int)
set_option maxHeartbeats 2000000 in
theorem live_any (b : Nat) (T : Nat → Nd) (w : World) (h : IsTree w b T) :
    Calls Try.prog 7 #[.pointer (some ⟨b, 0, none⟩)] w fun e w' => ∃ v, e = .returned v ∧ w'.ownsRow w.heap.size 3 1 v (liveL T 64).length (numV (liveL T 64)) ∧ Below w.heap.size w w' := by
  obtain ⟨i0, hi, hz0, hz1, hz2⟩ := info5 int_info5
  have RG : Hid (w.rangeAt b 0 (flatT T 64)) := flat_range h
  have IK : ∀ (k : Nat), k < 64 → ∀ (W : World), (Instr.index 44 (.agg (flatT T 64).toArray) (.int .i64 k)).run Try.prog W = .ok (.agg #[.int .i64 (T k).par, .int .i64 (T k).quota, .int .i64 (T k).used, .int .i64 (T k).lent, .bool (T k).live]) W := fun k hk W => ixk T k hk W
  have FL : Hid ((flatT T 64).length = 320) := flat_len T 64
  have AI : (Try.prog.info? 44).map (·.size) = some 320 := by kernel_rfl
  have fl : (flatT T 64).length = 320 := flat_len T 64
  clear h
  generalize hf : flatT T 64 = FT at RG IK FL fl
  clear hf
  have HA : Hid ((Try.prog.info? 44).map (·.size) = some 320) := AI
  clear AI
  go_enter Try.func7, Try.ntmps7
  go_wp2_with (refine load_pat b 0 FT (.array 64 40) ?hx ?hc ?hu ?hd ?hi ?rest; (case hx => rfl); (case hc => exact RG.out); (case hu => exact Try.underlying44); (case hd => rfl); (case hi => rw [FL.out]; exact HA.out))
  go_loopw [3, 10] (fun v x W => ∃ k : Nat, k ≤ 64 ∧ x = .int .i64 k ∧ Hid (W.ownsRow w.heap.size 3 1 v (liveL T k).length (numV (liveL T k))) ∧ Hid (Below w.heap.size w W)) (fun _ x _ => 64 - (intOf x).toNat)
  case atStart => exact ⟨0, by omega, rfl, ⟨by simp [numV, liveL], Or.inl ⟨rfl, rfl⟩⟩, Below.refl _ _⟩
  case round =>
    obtain ⟨k, hk, rfl, O, B⟩ := hrel
    by_cases hlt : k < 64
    · have hd : decide ((k : Int) < 64) = true := by simp; omega
      have LN : Hid ((liveL T k).length ≤ 64) := Nat.le_trans (live_len T k) (by omega)
      have ik := IK k hlt
      clear IK RG
      obtain ⟨⟨lp, lq, lu, ll, lv⟩, h0⟩ : ∃ l, T k = l := ⟨_, rfl⟩
      rw [h0] at ik
      have H0 : Hid (T k = ⟨lp, lq, lu, ll, lv⟩) := h0
      clear h0
      simp only at ik
      cases lv
      · go_wp2_with fail
        go_roundw
        case rel => exact ⟨k + 1, by omega, by go_num, (by rw [live_no T k (by rw [H0.out])]; exact own_keep O.out (Go.Joins.below_alloc1 _ _)), below_new B.out _⟩
        case measure => simp [intOf]; omega
      · have OW : Hid (((wr.alloc (.cells #[.int .i64 lp, .int .i64 lq, .int .i64 lu, .int .i64 ll, .bool true] 40)).alloc (.cells #[.int .i64 k] 3)).ownsRow w.heap.size 3 1 u3 (liveL T k).length (numV (liveL T k))) := own_keep O.out (Go.Joins.below_alloc2 _ _ _)
        have NW : Hid (∀ j x, ([.int .i64 k] : List Value)[j]? = some x → ((wr.alloc (.cells #[.int .i64 lp, .int .i64 lq, .int .i64 lu, .int .i64 ll, .bool true] 40)).alloc (.cells #[.int .i64 k] 3)).cell? ((⟨wr.heap.size + 1, 0, none⟩ : Addr).add j) = some x) := news_cells wr _ #[.int .i64 k] 3
        have ON : Hid (∀ x ∈ ([.int .i64 k] : List Value), x.oneCell' = true) := by show ∀ x ∈ ([.int .i64 k] : List Value), x.oneCell' = true; simp [Value.oneCell']
        have HZ : Hid (w.heap.size ≤ ((wr.alloc (.cells #[.int .i64 lp, .int .i64 lq, .int .i64 lu, .int .i64 ll, .bool true] 40)).alloc (.cells #[.int .i64 k] 3)).heap.size) := by show _ ≤ _; rw [World.size_alloc, World.size_alloc]; have := B.out.size; omega
        have MX : Hid ((liveL T k).length + 1 ≤ maxLen) := by show _ ≤ _; unfold maxLen; have := LN.out; omega
        have BY : Hid (((liveL T k).length + 1) * 8 ≤ 140737488355328) := by show _ ≤ _; have := LN.out; omega
        go_wp2_with (at_builtin; refine wpList_append_own _ rfl _ _ 35 rfl w.heap.size 3 i0 (.int .i64 0) 1 8 Try.underlying35 hi hz0 hz1 hz2 rfl (by decide) u3 ((liveL T k).length) (numV (liveL T k)) rfl OW.out ⟨wr.heap.size + 1, 0, none⟩ 1 1 ([.int .i64 k] : List Value) rfl rfl NW.out ON.out MX.out BY.out HZ.out ?_; intro v1 a0 hown hg hnil; have O1 : Hid (a0.ownsRow w.heap.size 3 1 v1 ((liveL T k).length + 1) (numV (liveL T k) ++ [.int .i64 k])) := hown; have B1 : Hid (Below w.heap.size w a0) := below_grown (B.out.trans (Go.Joins.below_le (Go.Joins.below_alloc2 wr _ _) B.out.size)) OW.out hg; clear hown hg hnil OW NW ON HZ MX BY)
        go_wp2_with fail
        go_roundw
        case rel => exact ⟨k + 1, by omega, by go_num, (by rw [live_yes T k (by rw [H0.out])]; have := O1.out; show World.ownsRow _ _ _ _ _ _ _; simpa [numV] using this), B1⟩
        case measure => simp [intOf]; omega
    · obtain rfl : k = 64 := by omega
      go_wp2_with fail
      go_ret
      exact ⟨_, rfl, O.out, B.out⟩
end Go.Proofs.Ytebmnnliaeollaa
