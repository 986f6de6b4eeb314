/- The translations' store: what is dropped. -/
import Derived.Test.YtihedjlcjkbjfaaT2
import Derived.Laws.MakeOwn
namespace Go.Proofs.Ytihedjlcjkbjfaa
open Go.ChangeShapes Go.WideShapes Go.ChangeAt Go.RowKit Go.Maps
set_option linter.unusedSimpArgs false
set_option linter.unusedVariables false
set_option maxRecDepth 8000

/-- block b holds these lines, place by place -/
def IsTlb (w : World) (b : Nat) (T : Nat → Ln) : Prop := (∀ i, i < 16 → w.rangeAt b (i * 9) (T i).enc) ∧ w.there b 0 144 ∧ b < w.heap.size
def dropT (T : Nat → Ln) (f : Ln → Bool) (n : Nat) : Nat → Ln := fun i => if i < n then (if f (T i) then Ln.zero else T i) else T i
theorem line_info : (Try.prog.info? 54).map (·.size) = some 9 := by kernel_rfl
theorem grown_of_below {w w' : World} (h : Below w.heap.size w w') (r : Option Nat) : w.grownBy w' r := ⟨h.os, h.tape, h.output, h.size, fun k hk _ => h.block k hk⟩
theorem grown_setCell1 (w : World) (b o : Nat) (v : Value) : w.grownBy (w.setCell ⟨b, o, none⟩ v) (some b) := by
  have h : Below 0 w (w.setCell ⟨b, o, none⟩ v) := (Below.refl 0 w).setCell (Nat.zero_le _) v
  exact ⟨h.os, h.tape, h.output, h.size, fun k hk hne => Below.heap_setCell _ _ _ _ (fun e => hne (by rw [show k = b from e]))⟩
theorem grown_trans {a b c : World} {r : Option Nat} (h : a.grownBy b r) (k : b.grownBy c r) : a.grownBy c r := ⟨k.os.trans h.os, k.tape.trans h.tape, k.output.trans h.output, Nat.le_trans h.size k.size, fun j hj hne => (k.block j (Nat.lt_of_lt_of_le hj h.size) hne).trans (h.block j hj hne)⟩
theorem grown_refl (a : World) (r : Option Nat) : a.grownBy a r := ⟨rfl, rfl, rfl, Nat.le_refl _, fun _ _ _ => rfl⟩
theorem grown_setCells (b : Nat) : ∀ (vs : List Value) (o : Nat) (w : World), w.grownBy (w.setCells b o vs) (some b)
  | [], _, w => grown_refl w _
  | v :: r, o, w => by
    rw [World.setCells]
    exact grown_trans (grown_setCell1 w b o v) (grown_setCells b r (o + 1) _)
theorem kept_size (w : World) (b o : Nat) (vs : List Value) : w.heap.size ≤ (w.setCells b o vs).heap.size := (grown_setCells b vs o w).size
theorem IsTlb.below {w w' : World} {b : Nat} {T : Nat → Ln} (h : IsTlb w b T) (hb : Below w.heap.size w w') : IsTlb w' b T := by
  obtain ⟨h1, h2, h3⟩ := h
  refine ⟨fun i hi j v hv => ?_, fun j hj => ?_, Nat.lt_of_lt_of_le h3 hb.size⟩
  · rw [hb.cell (p := ⟨b, i * 9 + j, none⟩) h3]; exact h1 i hi j v hv
  · rw [hb.cell (p := ⟨b, 0 + j, none⟩) h3, hb.frozen (p := ⟨b, 0 + j, none⟩) h3]; exact h2 j hj
theorem enc_len (l : Ln) : l.enc.length = 9 := rfl
theorem IsTlb.there {w : World} {b : Nat} {T : Nat → Ln} (h : IsTlb w b T) (i : Nat) (hi : i < 16) : w.there b (i * 9) 9 := fun j hj => by
  have := h.2.1 (i * 9 + j) (by omega)
  rwa [Nat.zero_add] at this
/-- a line is laid into a place -/
theorem IsTlb.put {w : World} {b : Nat} {T : Nat → Ln} (h : IsTlb w b T) (i : Nat) (hi : i < 16) (l : Ln) : IsTlb (w.setCells b (i * 9) l.enc) b (fun k => if k = i then l else T k) := by
  obtain ⟨h1, h2, h3⟩ := h
  refine ⟨fun k hk => ?_, World.there_setCells h2 _ _ _, ?_⟩
  · by_cases c : k = i
    · subst c; simp only [if_true]; exact World.rangeAt_setCells_same w b (k * 9) l.enc (IsTlb.there ⟨h1, h2, h3⟩ k hk)
    · simp only [if_neg c]
      refine World.rangeAt_setCells_apart (h1 k hk) b (i * 9) l.enc (Or.inr ?_)
      simp only [enc_len]
      omega
  · exact Nat.lt_of_lt_of_le h3 (kept_size w b (i * 9) l.enc)
theorem IsTlb.congr {w : World} {b : Nat} {T T' : Nat → Ln} (h : IsTlb w b T) (e : ∀ i, i < 16 → T i = T' i) : IsTlb w b T' := ⟨fun i hi => by rw [← e i hi]; exact h.1 i hi, h.2⟩
theorem drop_at (T : Nat → Ln) (f : Ln → Bool) (n : Nat) : dropT T f n n = T n := by unfold dropT; rw [if_neg (by omega)]
theorem drop_yes (T : Nat → Ln) (f : Ln → Bool) (n : Nat) (h : f (T n) = true) (i : Nat) : (if i = n then Ln.zero else dropT T f n i) = dropT T f (n + 1) i := by
  unfold dropT
  by_cases c : i = n
  · subst c; rw [if_pos rfl, if_pos (by omega), if_pos h]
  · rw [if_neg c]
    by_cases d : i < n
    · have e : i < n + 1 := by omega
      simp only [d, e, if_true]
    · have e : ¬ i < n + 1 := by omega
      simp only [d, e, if_false]
theorem drop_no (T : Nat → Ln) (f : Ln → Bool) (n : Nat) (h : f (T n) = false) (i : Nat) : dropT T f n i = dropT T f (n + 1) i := by
  unfold dropT
  by_cases c : i = n
  · subst c; rw [if_neg (by omega), if_pos (by omega), if_neg (by rw [h]; simp)]
  · by_cases d : i < n
    · have e : i < n + 1 := by omega
      simp only [d, e, if_true]
    · have e : ¬ i < n + 1 := by omega
      simp only [d, e, if_false]
theorem IsTlb.cell {w : World} {b : Nat} {T : Nat → Ln} (h : IsTlb w b T) (i : Nat) (hi : i < 16) (c : Nat) (v : Value) (hv : (T i).enc[c]? = some v) (o : Nat) (ho : o = i * 9 + c) : w.cell? ⟨b, o, none⟩ = some v := by rw [ho]; exact h.1 i hi c v hv
theorem IsTlb.free {w : World} {b : Nat} {T : Nat → Ln} (h : IsTlb w b T) (o n : Nat) (ho : o + n ≤ 144) : w.there b o n := fun j hj => by
  have := h.2.1 (o + j) (by omega)
  rwa [Nat.zero_add] at this
theorem store_pat {P : Program} {ops : Array Oper} {rest : List Oper} {ty t : TypeId} {x y : Operand} {pos : String} {af : Array Edge} {a : Act} {w : World} {Q : Exit → Act → World → Prop} (b o : Nat) (cells : Array Value) (hx : a.eval x = .pointer (some ⟨b, o, none⟩)) (hy : a.eval y = .agg cells)
    (ht : w.there b o cells.size) (hi : (P.info? ty).map (·.size) = some cells.size) (h1 : cells.all (·.oneCell') = true)
    (h : wpList P ops Q rest a (w.setCells b o cells.toList)) : wpList P ops Q ({ dst := none, op := .store ty x y, type := t, pos := pos, after := af, guard := none } :: rest) a w :=
  wpList_store_mid rfl ty x y rfl b o cells hx hy ht hi h1 h
theorem zero_one : (#[.bool false, .int .i64 0, .int .i64 0, .int .i64 0, .bool false, .bool false, .bool false, .bool false, .bool false] : Array Value).all (fun x => x.oneCell') = true := by simp [Value.oneCell']
set_option maxHeartbeats 1000000 in
theorem drop1 (b : Nat) (g B0 : Nat) (T : Nat → Ln) (f : Ln → Bool) (C : World → Prop) (hC : Hid (∀ W W' : World, C W → W.grownBy W' (some b) → C W')) (hen : ∀ (args : Array Value) (w : World), (callFunc g args).run Try.prog w = .ok (.enter g args) w)
    (hg : Hid (∀ (W : World) (l : Ln), C W → Calls Try.prog g #[l.val, .pointer (some ⟨B0, 0, none⟩)] W fun e W' => e = .returned (.bool (f l)) ∧ Below W.heap.size W W')) (w : World) (h : IsTlb w b T) (hc : C w) :
    Calls Try.prog 43 #[.pointer (some ⟨b, 0, none⟩), .func (.func g) #[] #[.pointer (some ⟨B0, 0, none⟩)]] w fun e w' => e = .returned (.tuple #[]) ∧ IsTlb w' b (dropT T f 16) ∧ w.grownBy w' (some b) := by
  go_enter Try.func43, Try.ntmps43
  go_wp2_with fail
  go_loopw [6] (fun x W => ∃ k : Nat, k ≤ 8 ∧ x = .int .i64 k ∧ Hid (IsTlb W b (dropT T f (2 * k))) ∧ Hid (C W) ∧ Hid (w.grownBy W (some b))) (fun x _ => 8 - (intOf x).toNat)
  case atStart => exact ⟨0, by omega, rfl, h.congr (fun i _ => by unfold dropT; rw [if_neg (by omega)]), hc, grown_refl _ _⟩
  case round =>
    obtain ⟨k, hk, rfl, hT, hcw, hgr⟩ := hrel
    by_cases hlt : k < 8
    · have hd : decide ((k : Int) < 8) = true := by simp; omega
      go_wp2_with fail
      go_loopw [9] (fun x W => ∃ j : Nat, j ≤ 2 ∧ x = .int .i64 j ∧ Hid (IsTlb W b (dropT T f (2 * k + j))) ∧ Hid (C W) ∧ Hid (w.grownBy W (some b))) (fun x _ => 2 - (intOf x).toNat)
      case atStart => exact ⟨0, by omega, rfl, hT, hcw, hgr⟩
      case round =>
        obtain ⟨j, hj, rfl, hT1, hcw1, hgr1⟩ := hrel
        by_cases hlj : j < 2
        · have hd2 : decide ((j : Int) < 2) = true := by simp; omega
          obtain ⟨l, hl⟩ : ∃ l, T (2 * k + j) = l := ⟨_, rfl⟩
          have hT1' := hT1.out
          have c0 : wr.cell? ⟨b, k * 18 + j * 9, none⟩ = some (.bool l.v) := hT1'.cell (2 * k + j) (by omega) 0 _ (by rw [drop_at, hl]; rfl) _ (by omega)
          have c1 : wr.cell? ⟨b, k * 18 + j * 9 + 1, none⟩ = some (.int .i64 l.t) := hT1'.cell (2 * k + j) (by omega) 1 _ (by rw [drop_at, hl]; rfl) _ (by omega)
          have c2 : wr.cell? ⟨b, k * 18 + j * 9 + 2, none⟩ = some (.int .i64 l.p) := hT1'.cell (2 * k + j) (by omega) 2 _ (by rw [drop_at, hl]; rfl) _ (by omega)
          have c3 : wr.cell? ⟨b, k * 18 + j * 9 + 3, none⟩ = some (.int .i64 l.f) := hT1'.cell (2 * k + j) (by omega) 3 _ (by rw [drop_at, hl]; rfl) _ (by omega)
          have c4 : wr.cell? ⟨b, k * 18 + j * 9 + 4, none⟩ = some (.bool l.w) := hT1'.cell (2 * k + j) (by omega) 4 _ (by rw [drop_at, hl]; rfl) _ (by omega)
          have c5 : wr.cell? ⟨b, k * 18 + j * 9 + 5, none⟩ = some (.bool l.u) := hT1'.cell (2 * k + j) (by omega) 5 _ (by rw [drop_at, hl]; rfl) _ (by omega)
          have c6 : wr.cell? ⟨b, k * 18 + j * 9 + 6, none⟩ = some (.bool l.x) := hT1'.cell (2 * k + j) (by omega) 6 _ (by rw [drop_at, hl]; rfl) _ (by omega)
          have c7 : wr.cell? ⟨b, k * 18 + j * 9 + 7, none⟩ = some (.bool l.g) := hT1'.cell (2 * k + j) (by omega) 7 _ (by rw [drop_at, hl]; rfl) _ (by omega)
          have c8 : wr.cell? ⟨b, k * 18 + j * 9 + 8, none⟩ = some (.bool l.d) := hT1'.cell (2 * k + j) (by omega) 8 _ (by rw [drop_at, hl]; rfl) _ (by omega)
          clear hT1'
          have HL : Hid (T (2 * k + j) = l) := hl
          clear hl
          go_wp2_with fail
          refine (hg.out _ l hcw1.out).mono ?_
          rintro e u ⟨rfl, hb⟩
          have U1 : Hid (IsTlb u b (dropT T f (2 * k + j))) := hT1.out.below hb
          have U2 : Hid (C u) := hC.out _ _ hcw1.out (grown_of_below hb _)
          have U3 : Hid (w.grownBy u (some b)) := grown_trans hgr1.out (grown_of_below hb _)
          clear hb c0 c1 c2 c3 c4 c5 c6 c7 c8
          cases hf : f l
          · have hf' : f (T (2 * k + j)) = false := by rw [HL.out]; exact hf
            have U1' : Hid (IsTlb u b (dropT T f (2 * k + (j + 1)))) := U1.out.congr (fun i _ => drop_no T f _ hf' i)
            clear hf'
            go_wp2_with fail
            go_roundw
            case rel => exact ⟨j + 1, by omega, by go_num, U1', U2, U3⟩
            case measure => simp [intOf]; omega
          · have hf' : f (T (2 * k + j)) = true := by rw [HL.out]; exact hf
            have TH : Hid (u.there b (k * 18 + j * 9) 9) := U1.out.free _ _ (by omega)
            have V1 : Hid (IsTlb (u.setCells b (k * 18 + j * 9) [.bool false, .int .i64 0, .int .i64 0, .int .i64 0, .bool false, .bool false, .bool false, .bool false, .bool false]) b (dropT T f (2 * k + (j + 1)))) := by
              have := (U1.out.put (2 * k + j) (by omega) Ln.zero).congr (fun i _ => drop_yes T f _ hf' i)
              rw [show (2 * k + j) * 9 = k * 18 + j * 9 by omega] at this
              exact this
            have V2 : Hid (C (u.setCells b (k * 18 + j * 9) [.bool false, .int .i64 0, .int .i64 0, .int .i64 0, .bool false, .bool false, .bool false, .bool false, .bool false])) := hC.out _ _ U2.out (grown_setCells b _ _ _)
            have V3 : Hid (w.grownBy (u.setCells b (k * 18 + j * 9) [.bool false, .int .i64 0, .int .i64 0, .int .i64 0, .bool false, .bool false, .bool false, .bool false, .bool false]) (some b)) := grown_trans U3.out (grown_setCells b _ _ _)
            clear hf'
            go_wp2_with (refine store_pat b (k * 18 + j * 9) #[.bool false, .int .i64 0, .int .i64 0, .int .i64 0, .bool false, .bool false, .bool false, .bool false, .bool false] ?hx ?hy ?ht ?hi ?h1 ?rest; (case hx => rfl); (case hy => rfl); (case ht => exact TH.out); (case hi => exact line_info); (case h1 => exact zero_one))
            exact ⟨⟨j + 1, by omega, by go_num, V1, V2, V3⟩, by simp [intOf]; omega⟩
        · obtain rfl : j = 2 := by omega
          go_wp2_with fail
          go_roundw
          case rel => exact ⟨k + 1, by omega, by go_num, hT1, hcw1, hgr1⟩
          case measure => simp [intOf]; omega
    · obtain rfl : k = 8 := by omega
      go_wp2_with fail
      go_end0
      exact ⟨rfl, hT.out, hgr.out⟩
set_option maxHeartbeats 1000000 in
theorem drop2 (b : Nat) (g B0 B1 : Nat) (T : Nat → Ln) (f : Ln → Bool) (C : World → Prop) (hC : Hid (∀ W W' : World, C W → W.grownBy W' (some b) → C W')) (hen : ∀ (args : Array Value) (w : World), (callFunc g args).run Try.prog w = .ok (.enter g args) w)
    (hg : Hid (∀ (W : World) (l : Ln), C W → Calls Try.prog g #[l.val, .pointer (some ⟨B0, 0, none⟩), .pointer (some ⟨B1, 0, none⟩)] W fun e W' => e = .returned (.bool (f l)) ∧ Below W.heap.size W W')) (w : World) (h : IsTlb w b T) (hc : C w) :
    Calls Try.prog 43 #[.pointer (some ⟨b, 0, none⟩), .func (.func g) #[] #[.pointer (some ⟨B0, 0, none⟩), .pointer (some ⟨B1, 0, none⟩)]] w fun e w' => e = .returned (.tuple #[]) ∧ IsTlb w' b (dropT T f 16) ∧ w.grownBy w' (some b) := by
  go_enter Try.func43, Try.ntmps43
  go_wp2_with fail
  go_loopw [6] (fun x W => ∃ k : Nat, k ≤ 8 ∧ x = .int .i64 k ∧ Hid (IsTlb W b (dropT T f (2 * k))) ∧ Hid (C W) ∧ Hid (w.grownBy W (some b))) (fun x _ => 8 - (intOf x).toNat)
  case atStart => exact ⟨0, by omega, rfl, h.congr (fun i _ => by unfold dropT; rw [if_neg (by omega)]), hc, grown_refl _ _⟩
  case round =>
    obtain ⟨k, hk, rfl, hT, hcw, hgr⟩ := hrel
    by_cases hlt : k < 8
    · have hd : decide ((k : Int) < 8) = true := by simp; omega
      go_wp2_with fail
      go_loopw [9] (fun x W => ∃ j : Nat, j ≤ 2 ∧ x = .int .i64 j ∧ Hid (IsTlb W b (dropT T f (2 * k + j))) ∧ Hid (C W) ∧ Hid (w.grownBy W (some b))) (fun x _ => 2 - (intOf x).toNat)
      case atStart => exact ⟨0, by omega, rfl, hT, hcw, hgr⟩
      case round =>
        obtain ⟨j, hj, rfl, hT1, hcw1, hgr1⟩ := hrel
        by_cases hlj : j < 2
        · have hd2 : decide ((j : Int) < 2) = true := by simp; omega
          obtain ⟨l, hl⟩ : ∃ l, T (2 * k + j) = l := ⟨_, rfl⟩
          have hT1' := hT1.out
          have c0 : wr.cell? ⟨b, k * 18 + j * 9, none⟩ = some (.bool l.v) := hT1'.cell (2 * k + j) (by omega) 0 _ (by rw [drop_at, hl]; rfl) _ (by omega)
          have c1 : wr.cell? ⟨b, k * 18 + j * 9 + 1, none⟩ = some (.int .i64 l.t) := hT1'.cell (2 * k + j) (by omega) 1 _ (by rw [drop_at, hl]; rfl) _ (by omega)
          have c2 : wr.cell? ⟨b, k * 18 + j * 9 + 2, none⟩ = some (.int .i64 l.p) := hT1'.cell (2 * k + j) (by omega) 2 _ (by rw [drop_at, hl]; rfl) _ (by omega)
          have c3 : wr.cell? ⟨b, k * 18 + j * 9 + 3, none⟩ = some (.int .i64 l.f) := hT1'.cell (2 * k + j) (by omega) 3 _ (by rw [drop_at, hl]; rfl) _ (by omega)
          have c4 : wr.cell? ⟨b, k * 18 + j * 9 + 4, none⟩ = some (.bool l.w) := hT1'.cell (2 * k + j) (by omega) 4 _ (by rw [drop_at, hl]; rfl) _ (by omega)
          have c5 : wr.cell? ⟨b, k * 18 + j * 9 + 5, none⟩ = some (.bool l.u) := hT1'.cell (2 * k + j) (by omega) 5 _ (by rw [drop_at, hl]; rfl) _ (by omega)
          have c6 : wr.cell? ⟨b, k * 18 + j * 9 + 6, none⟩ = some (.bool l.x) := hT1'.cell (2 * k + j) (by omega) 6 _ (by rw [drop_at, hl]; rfl) _ (by omega)
          have c7 : wr.cell? ⟨b, k * 18 + j * 9 + 7, none⟩ = some (.bool l.g) := hT1'.cell (2 * k + j) (by omega) 7 _ (by rw [drop_at, hl]; rfl) _ (by omega)
          have c8 : wr.cell? ⟨b, k * 18 + j * 9 + 8, none⟩ = some (.bool l.d) := hT1'.cell (2 * k + j) (by omega) 8 _ (by rw [drop_at, hl]; rfl) _ (by omega)
          clear hT1'
          have HL : Hid (T (2 * k + j) = l) := hl
          clear hl
          go_wp2_with fail
          refine (hg.out _ l hcw1.out).mono ?_
          rintro e u ⟨rfl, hb⟩
          have U1 : Hid (IsTlb u b (dropT T f (2 * k + j))) := hT1.out.below hb
          have U2 : Hid (C u) := hC.out _ _ hcw1.out (grown_of_below hb _)
          have U3 : Hid (w.grownBy u (some b)) := grown_trans hgr1.out (grown_of_below hb _)
          clear hb c0 c1 c2 c3 c4 c5 c6 c7 c8
          cases hf : f l
          · have hf' : f (T (2 * k + j)) = false := by rw [HL.out]; exact hf
            have U1' : Hid (IsTlb u b (dropT T f (2 * k + (j + 1)))) := U1.out.congr (fun i _ => drop_no T f _ hf' i)
            clear hf'
            go_wp2_with fail
            go_roundw
            case rel => exact ⟨j + 1, by omega, by go_num, U1', U2, U3⟩
            case measure => simp [intOf]; omega
          · have hf' : f (T (2 * k + j)) = true := by rw [HL.out]; exact hf
            have TH : Hid (u.there b (k * 18 + j * 9) 9) := U1.out.free _ _ (by omega)
            have V1 : Hid (IsTlb (u.setCells b (k * 18 + j * 9) [.bool false, .int .i64 0, .int .i64 0, .int .i64 0, .bool false, .bool false, .bool false, .bool false, .bool false]) b (dropT T f (2 * k + (j + 1)))) := by
              have := (U1.out.put (2 * k + j) (by omega) Ln.zero).congr (fun i _ => drop_yes T f _ hf' i)
              rw [show (2 * k + j) * 9 = k * 18 + j * 9 by omega] at this
              exact this
            have V2 : Hid (C (u.setCells b (k * 18 + j * 9) [.bool false, .int .i64 0, .int .i64 0, .int .i64 0, .bool false, .bool false, .bool false, .bool false, .bool false])) := hC.out _ _ U2.out (grown_setCells b _ _ _)
            have V3 : Hid (w.grownBy (u.setCells b (k * 18 + j * 9) [.bool false, .int .i64 0, .int .i64 0, .int .i64 0, .bool false, .bool false, .bool false, .bool false, .bool false]) (some b)) := grown_trans U3.out (grown_setCells b _ _ _)
            clear hf'
            go_wp2_with (refine store_pat b (k * 18 + j * 9) #[.bool false, .int .i64 0, .int .i64 0, .int .i64 0, .bool false, .bool false, .bool false, .bool false, .bool false] ?hx ?hy ?ht ?hi ?h1 ?rest; (case hx => rfl); (case hy => rfl); (case ht => exact TH.out); (case hi => exact line_info); (case h1 => exact zero_one))
            exact ⟨⟨j + 1, by omega, by go_num, V1, V2, V3⟩, by simp [intOf]; omega⟩
        · obtain rfl : j = 2 := by omega
          go_wp2_with fail
          go_roundw
          case rel => exact ⟨k + 1, by omega, by go_num, hT1, hcw1, hgr1⟩
          case measure => simp [intOf]; omega
    · obtain rfl : k = 8 := by omega
      go_wp2_with fail
      go_end0
      exact ⟨rfl, hT.out, hgr.out⟩
end Go.Proofs.Ytihedjlcjkbjfaa
