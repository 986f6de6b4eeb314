/- Containers: the document's lists that are made anew: Add. -/
import Derived.Test.YtebmnnliaeollaaQ13
namespace Go.Proofs.Ytebmnnliaeollaa
open Go.ChangeShapes Go.WideShapes Go.ChangeAt Go.RowKit Go.Maps
set_option linter.unusedSimpArgs false
set_option linter.unusedVariables false

def zbox : Value := .agg #[.int .i64 0, .int .i64 0, .int .i64 0, .int .i64 0]
theorem box_info5 : (Try.prog.info? 29).map (fun i => (i.zero, i.size, i.bytes)) = some (some zbox, 4, 32) := by kernel_rfl
theorem benc_len (b : Bx) : b.enc.length = 4 := rfl
theorem flatB_enc : ∀ (L : List Bx) (i j : Nat), i < L.length → j < 4 → (L.flatMap Bx.enc)[i * 4 + j]? = (L.getD i Bx.zero).enc[j]?
  | [], i, j, h, _ => absurd h (Nat.not_lt_zero _)
  | l :: r, 0, j, h, hj => by
    rw [List.flatMap_cons, List.getElem?_append_left (by rw [benc_len]; omega)]
    simp [List.getD]
  | l :: r, i + 1, j, h, hj => by
    rw [List.flatMap_cons, List.getElem?_append_right (by rw [benc_len]; omega), benc_len, show (i + 1) * 4 + j - 4 = i * 4 + j by omega, flatB_enc r i j (by simpa using h) hj]
    simp [List.getD]
/-- a list in the making -/
def OwnB (w : World) (base : Nat) (v : Value) (L : List Bx) : Prop := w.ownsRow base 29 4 v L.length (L.flatMap Bx.enc)
theorem box_read {w : World} {base : Nat} {v : Value} {L : List Bx} (h : OwnB w base v L) : ∃ p c, v = .slice p L.length c ∧ IsBox w base p L := by
  obtain ⟨h1, h2 | ⟨g, cap, cur, e1, e2, e3, e4, e5, e6, e7⟩⟩ := h
  · refine ⟨none, 0, by rw [h2.1, h2.2], fun i hi => ?_⟩
    rw [h2.2] at hi; exact absurd hi (Nat.not_lt_zero _)
  · refine ⟨_, cap, e1, fun i hi => ⟨g, rfl, e2, (Array.getElem?_eq_some_iff.1 e3).1, fun j x hx => ?_⟩⟩
    have hj : j < 4 := (List.getElem?_eq_some_iff.1 hx).1
    rw [Go.Joins.cell_of_block e3 _]
    have : (cur.toList.take (L.length * 4))[i * 4 + j]? = (L.flatMap Bx.enc)[i * 4 + j]? := by rw [e7]
    rw [List.getElem?_take, if_pos (by omega), Array.getElem?_toList, flatB_enc L i j hi hj] at this
    rw [this]; exact hx
theorem own_start (w : World) : OwnB (w.alloc (.cells #[] 29)) w.heap.size (.slice (some ⟨w.heap.size, 0, none⟩) 0 0) [] := ⟨rfl, Or.inr ⟨w.heap.size, 0, #[], rfl, Nat.le_refl _, own1 w _, by simp, by simp, rfl, rfl⟩⟩
theorem take_next (B : List Bx) (m : Nat) (h : m < B.length) : B.take (m + 1) = B.take m ++ [B.getD m Bx.zero] := by
  rw [List.take_add_one, List.getElem?_eq_getElem h]
  have : B.getD m Bx.zero = B[m] := by rw [List.getD, List.getElem?_eq_getElem h]; rfl
  rw [this]; rfl
theorem OwnB.next {w : World} {base : Nat} {v : Value} {L : List Bx} {b : Bx} (h : w.ownsRow base 29 4 v (L.length + 1) (L.flatMap Bx.enc ++ b.enc)) : OwnB w base v (L ++ [b]) := by
  unfold OwnB; simpa [List.flatMap_append] using h
theorem OwnB.weak {w : World} {base base' : Nat} {v : Value} {L : List Bx} (h : OwnB w base v L) (hb : base' ≤ base) : OwnB w base' v L := by
  obtain ⟨h1, h2 | ⟨g, cap, cur, e1, e2, e3⟩⟩ := h
  · exact ⟨h1, Or.inl h2⟩
  · exact ⟨h1, Or.inr ⟨g, cap, cur, e1, by omega, e3⟩⟩
theorem OwnB.below {w w' : World} {base : Nat} {v : Value} {L : List Bx} (h : OwnB w base v L) (hb : Below w.heap.size w w') : OwnB w' base v L := own_keep h hb
def Bx.plus (b : Bx) (n : Int) : Bx := ⟨b.num, b.par, b.quota, b.used + n⟩
def add1 (i n : Int) (b : Bx) : Bx := if b.num = i then b.plus n else b
def addB (B : List Bx) (i n : Int) : List Bx := B.map (add1 i n)
theorem add_len (B : List Bx) (i n : Int) (m : Nat) : (addB (B.take m) i n).length ≤ B.length := by unfold addB; rw [List.length_map, List.length_take]; omega
theorem add_next (B : List Bx) (i n : Int) (m : Nat) (h : m < B.length) : addB (B.take (m + 1)) i n = addB (B.take m) i n ++ [add1 i n (B.getD m Bx.zero)] := by unfold addB; rw [take_next B m h, List.map_append]; rfl
set_option maxHeartbeats 2000000 in
theorem addB_any (base : Nat) (p : Option Addr) (c : Nat) (B : List Bx) (hB : B.length ≤ 64) (hs : FitB B) (i n : Int) (n0 : -1048576 ≤ n) (n1 : n ≤ 1048576) (w : World) (h : IsBox w base p B) :
    Calls Try.prog 17 #[.slice p B.length c, .int .i64 i, .int .i64 n] w fun e w' => ∃ v, e = .returned v ∧ OwnB w' w.heap.size v (addB B i n) ∧ Below w.heap.size w w' := by
  obtain ⟨i0, hi, hz0, hz1, hz2⟩ := info5 box_info5
  have HB : Hid (IsBox w base p B) := h
  have HS : Hid (FitB B) := hs
  clear h hs
  go_enter Try.func17, Try.ntmps17
  go_wp2_with fail
  go_loopw [7, 13] (fun v x W => ∃ m : Nat, m ≤ B.length ∧ x = .int .i64 m ∧ Hid (OwnB W w.heap.size v (addB (B.take m) i n)) ∧ Hid (Below w.heap.size w W)) (fun _ x _ => B.length - (intOf x).toNat)
  case atStart => exact ⟨0, by omega, rfl, own_start w, Go.Joins.below_alloc1 _ _⟩
  case round =>
    obtain ⟨m, hm, rfl, O, Bl⟩ := hrel
    by_cases hlm : m < B.length
    · have hd : decide ((m : Int) < (B.length : Int)) = true := by simp; omega
      obtain ⟨g, rfl, g1, g2, gc⟩ := (HB.out.below Bl.out) m hlm
      have NX : Hid (addB (B.take (m + 1)) i n = addB (B.take m) i n ++ [add1 i n (B.getD m Bx.zero)]) := add_next B i n m hlm
      have AL : Hid ((addB (B.take m) i n).length ≤ 64) := Nat.le_trans (add_len B i n m) hB
      have fm := HS.out m hlm
      generalize B.getD m Bx.zero = bx at gc NX fm
      obtain ⟨bn, bp, bq, bu⟩ := bx
      simp only at fm
      obtain ⟨_, u0, u1⟩ := fm
      have y0 : wr.cell? ⟨g, m * 4, none⟩ = some (.int .i64 bn) := gc 0 _ rfl
      have y1 : wr.cell? ⟨g, m * 4 + 1, none⟩ = some (.int .i64 bp) := gc 1 _ rfl
      have y2 : wr.cell? ⟨g, m * 4 + 2, none⟩ = some (.int .i64 bq) := gc 2 _ rfl
      have y3 : wr.cell? ⟨g, m * 4 + 3, none⟩ = some (.int .i64 bu) := gc 3 _ rfl
      clear gc
      by_cases ci : bn = i
      · have e1 : (bn == i) = true := by simp [ci]
        have N2 : Hid (addB (B.take (m + 1)) i n = addB (B.take m) i n ++ [⟨bn, bp, bq, bu + n⟩]) := by
          show _ = _
          rw [NX.out]; unfold add1; rw [if_pos ci]; rfl
        clear ci NX
        generalize addB (B.take m) i n = L at O AL N2
        have OW : Hid (((wr.alloc (.cells #[.int .i64 bn, .int .i64 bp, .int .i64 bq, .int .i64 (bu + n)] 29)).alloc (.cells #[.int .i64 bn, .int .i64 bp, .int .i64 bq, .int .i64 (bu + n)] 29)).ownsRow w.heap.size 29 4 u7 (L).length ((L).flatMap Bx.enc)) := own_keep O.out (Go.Joins.below_alloc2 _ _ _)
        have NW : Hid (∀ j x, ([.int .i64 bn, .int .i64 bp, .int .i64 bq, .int .i64 (bu + n)] : List Value)[j]? = some x → ((wr.alloc (.cells #[.int .i64 bn, .int .i64 bp, .int .i64 bq, .int .i64 (bu + n)] 29)).alloc (.cells #[.int .i64 bn, .int .i64 bp, .int .i64 bq, .int .i64 (bu + n)] 29)).cell? ((⟨wr.heap.size + 1, 0, none⟩ : Addr).add j) = some x) := news_cells wr _ #[.int .i64 bn, .int .i64 bp, .int .i64 bq, .int .i64 (bu + n)] 29
        have ON : Hid (∀ x ∈ ([.int .i64 bn, .int .i64 bp, .int .i64 bq, .int .i64 (bu + n)] : List Value), x.oneCell' = true) := by show ∀ x ∈ ([.int .i64 bn, .int .i64 bp, .int .i64 bq, .int .i64 (bu + n)] : List Value), x.oneCell' = true; simp [Value.oneCell']
        have HZ : Hid (w.heap.size ≤ ((wr.alloc (.cells #[.int .i64 bn, .int .i64 bp, .int .i64 bq, .int .i64 (bu + n)] 29)).alloc (.cells #[.int .i64 bn, .int .i64 bp, .int .i64 bq, .int .i64 (bu + n)] 29)).heap.size) := by show _ ≤ _; rw [World.size_alloc, World.size_alloc]; have := Bl.out.size; omega
        have MX : Hid ((L).length + 1 ≤ maxLen) := by show _ ≤ _; unfold maxLen; have := AL.out; omega
        have BY : Hid (((L).length + 1) * 32 ≤ 140737488355328) := by show _ ≤ _; have := AL.out; omega
        go_wp2_with (at_builtin; refine wpList_append_own _ rfl _ _ 30 rfl w.heap.size 29 i0 zbox 4 32 Try.underlying30 hi hz0 hz1 hz2 rfl (by decide) u7 ((L).length) ((L).flatMap Bx.enc) rfl OW.out ⟨wr.heap.size + 1, 0, none⟩ 1 1 ([.int .i64 bn, .int .i64 bp, .int .i64 bq, .int .i64 (bu + n)] : List Value) rfl rfl NW.out ON.out MX.out BY.out HZ.out ?_; intro v1 a0 hown hg hnil; have O1 : Hid (a0.ownsRow w.heap.size 29 4 v1 ((L).length + 1) (((L).flatMap Bx.enc) ++ [.int .i64 bn, .int .i64 bp, .int .i64 bq, .int .i64 (bu + n)])) := hown; have B1 : Hid (Below w.heap.size w a0) := below_grown (Bl.out.trans (Go.Joins.below_le (Go.Joins.below_alloc2 wr _ _) Bl.out.size)) OW.out hg; clear hown hg hnil OW NW ON HZ MX BY)
        go_wp2_with fail
        go_roundw
        case rel => exact ⟨m + 1, by omega, by go_num, (by show OwnB _ _ _ _; rw [N2.out]; exact OwnB.next O1.out), B1⟩
        case measure => simp [intOf]; omega
      · have e1 : (bn == i) = false := by simp [ci]
        have N2 : Hid (addB (B.take (m + 1)) i n = addB (B.take m) i n ++ [⟨bn, bp, bq, bu⟩]) := by
          show _ = _
          rw [NX.out]; unfold add1; rw [if_neg ci]
        clear ci NX
        generalize addB (B.take m) i n = L at O AL N2
        have OW : Hid (((wr.alloc (.cells #[.int .i64 bn, .int .i64 bp, .int .i64 bq, .int .i64 bu] 29)).alloc (.cells #[.int .i64 bn, .int .i64 bp, .int .i64 bq, .int .i64 bu] 29)).ownsRow w.heap.size 29 4 u7 (L).length ((L).flatMap Bx.enc)) := own_keep O.out (Go.Joins.below_alloc2 _ _ _)
        have NW : Hid (∀ j x, ([.int .i64 bn, .int .i64 bp, .int .i64 bq, .int .i64 bu] : List Value)[j]? = some x → ((wr.alloc (.cells #[.int .i64 bn, .int .i64 bp, .int .i64 bq, .int .i64 bu] 29)).alloc (.cells #[.int .i64 bn, .int .i64 bp, .int .i64 bq, .int .i64 bu] 29)).cell? ((⟨wr.heap.size + 1, 0, none⟩ : Addr).add j) = some x) := news_cells wr _ #[.int .i64 bn, .int .i64 bp, .int .i64 bq, .int .i64 bu] 29
        have ON : Hid (∀ x ∈ ([.int .i64 bn, .int .i64 bp, .int .i64 bq, .int .i64 bu] : List Value), x.oneCell' = true) := by show ∀ x ∈ ([.int .i64 bn, .int .i64 bp, .int .i64 bq, .int .i64 bu] : List Value), x.oneCell' = true; simp [Value.oneCell']
        have HZ : Hid (w.heap.size ≤ ((wr.alloc (.cells #[.int .i64 bn, .int .i64 bp, .int .i64 bq, .int .i64 bu] 29)).alloc (.cells #[.int .i64 bn, .int .i64 bp, .int .i64 bq, .int .i64 bu] 29)).heap.size) := by show _ ≤ _; rw [World.size_alloc, World.size_alloc]; have := Bl.out.size; omega
        have MX : Hid ((L).length + 1 ≤ maxLen) := by show _ ≤ _; unfold maxLen; have := AL.out; omega
        have BY : Hid (((L).length + 1) * 32 ≤ 140737488355328) := by show _ ≤ _; have := AL.out; omega
        go_wp2_with (at_builtin; refine wpList_append_own _ rfl _ _ 30 rfl w.heap.size 29 i0 zbox 4 32 Try.underlying30 hi hz0 hz1 hz2 rfl (by decide) u7 ((L).length) ((L).flatMap Bx.enc) rfl OW.out ⟨wr.heap.size + 1, 0, none⟩ 1 1 ([.int .i64 bn, .int .i64 bp, .int .i64 bq, .int .i64 bu] : List Value) rfl rfl NW.out ON.out MX.out BY.out HZ.out ?_; intro v1 a0 hown hg hnil; have O1 : Hid (a0.ownsRow w.heap.size 29 4 v1 ((L).length + 1) (((L).flatMap Bx.enc) ++ [.int .i64 bn, .int .i64 bp, .int .i64 bq, .int .i64 bu])) := hown; have B1 : Hid (Below w.heap.size w a0) := below_grown (Bl.out.trans (Go.Joins.below_le (Go.Joins.below_alloc2 wr _ _) Bl.out.size)) OW.out hg; clear hown hg hnil OW NW ON HZ MX BY)
        go_wp2_with fail
        go_roundw
        case rel => exact ⟨m + 1, by omega, by go_num, (by show OwnB _ _ _ _; rw [N2.out]; exact OwnB.next O1.out), B1⟩
        case measure => simp [intOf]; omega
    · obtain rfl : m = B.length := by omega
      have OF : Hid (OwnB wr w.heap.size u7 (addB B i n)) := by
        have := O.out
        rw [List.take_length] at this; exact this
      clear O
      go_wp2_with fail
      go_ret
      exact ⟨_, rfl, OF.out, Bl.out⟩
end Go.Proofs.Ytebmnnliaeollaa
