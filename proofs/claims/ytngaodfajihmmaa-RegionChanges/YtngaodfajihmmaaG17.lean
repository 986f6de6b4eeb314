/- Regions: the laws' Told and Of; a list that comes in. -/
import Derived.Test.YtngaodfajihmmaaG16
namespace Go.Proofs.Ytngaodfajihmmaa
open Go.ChangeShapes Go.WideShapes Go.ChangeAt Go.RowKit Go.Maps
set_option linter.unusedSimpArgs false
set_option linter.unusedVariables false

theorem cellsR : Try.prog.cellsOf 29 = 2 := by kernel_rfl
theorem cellsG : Try.prog.cellsOf 37 = 6 := by kernel_rfl
theorem cell_ofn {P : Program} {t u n k m : Nat} {cs : List Value} {c v : Value} (hu : P.cellsOf u = m) (hk : k < m) (hc : P.cellsOf t = 1) (h : (((cs.drop n).take (P.cellsOf u)).drop k).take (P.cellsOf t) = [v]) (hn : cs[n + k]? = some c) : c = v := by
  rw [hc, hu] at h
  have e : ((((cs.drop n).take m).drop k).take 1)[0]? = some c := by rw [List.getElem?_take, if_pos (by omega), List.getElem?_drop, List.getElem?_take, if_pos (by omega), List.getElem?_drop]; simpa using hn
  rw [h] at e
  exact (Option.some.inj e).symm
theorem list6 {α : Type} {cs : List α} (h : cs.length = 6) : ∃ c0 c1 c2 c3 c4 c5, cs = [c0, c1, c2, c3, c4, c5] := by
  match cs, h with
  | [c0, c1, c2, c3, c4, c5], _ => exact ⟨c0, c1, c2, c3, c4, c5, rfl⟩
theorem rgn_cells {H : Type} {enc : TypeId × Value → H} {W : World} {base : Nat} {sp : Nat → Bool} {held : Bool} {fuel : Nat} {cs : List Value} {x : DataW H × List MemPlace}
    (hf : DataW.trod enc Try.prog W base sp held fuel 37 cs = some x) (hlen6 : cs.length = 6) : ∃ a : Rg, cs = a.enc := by
  obtain ⟨c0, c1, c2, c3, c4, c5, rfl⟩ := list6 hlen6
  obtain ⟨xs, n, _, _, hl, hlen, hf⟩ := DataW.trod_struct Try.underlying37 hf
  have hg : ∀ i, i < 3 → ∃ y, xs[i]? = some y := fun i hi => ⟨_, List.getElem?_eq_getElem (by rw [hlen]; exact hi)⟩
  obtain ⟨y0, k0⟩ := hg 0 (by omega)
  obtain ⟨y1, k1⟩ := hg 1 (by omega)
  obtain ⟨y2, k2⟩ := hg 2 (by omega)
  obtain ⟨ws, q, _, _, ql, qlen, qf⟩ := DataW.trod_struct Try.underlying29 ((hf 0 _ rfl).trans k0)
  have qg : ∀ i, i < 2 → ∃ y, ws[i]? = some y := fun i hi => ⟨_, List.getElem?_eq_getElem (by rw [qlen]; exact hi)⟩
  obtain ⟨w0, o0⟩ := qg 0 (by omega)
  obtain ⟨w1, o1⟩ := qg 1 (by omega)
  obtain ⟨a0, e0, _, _⟩ := DataW.trod_int Try.underlying3 ((qf 0 _ rfl).trans o0)
  obtain ⟨a1, e1, _, _⟩ := DataW.trod_int Try.underlying3 ((qf 1 _ rfl).trans o1)
  obtain ⟨zs, m, _, _, jl, jlen, jf⟩ := DataW.trod_struct Try.underlying25 ((hf 1 _ rfl).trans k1)
  have jg : ∀ i, i < 3 → ∃ y, zs[i]? = some y := fun i hi => ⟨_, List.getElem?_eq_getElem (by rw [jlen]; exact hi)⟩
  obtain ⟨z0, m0⟩ := jg 0 (by omega)
  obtain ⟨z1, m1⟩ := jg 1 (by omega)
  obtain ⟨z2, m2⟩ := jg 2 (by omega)
  obtain ⟨a2, e2, _⟩ := DataW.trod_bool Try.underlying4 ((jf 0 _ rfl).trans m0)
  obtain ⟨a3, e3, _⟩ := DataW.trod_bool Try.underlying4 ((jf 1 _ rfl).trans m1)
  obtain ⟨a4, e4, _⟩ := DataW.trod_bool Try.underlying4 ((jf 2 _ rfl).trans m2)
  obtain ⟨a5, e5, _, _⟩ := DataW.trod_int Try.underlying3 ((hf 2 _ rfl).trans k2)
  obtain rfl := cell_ofn (n := 0) (k := 0) cellsR (by omega) cellsI e0 (c := c0) rfl
  obtain rfl := cell_ofn (n := 0) (k := 1) cellsR (by omega) cellsI e1 (c := c1) rfl
  obtain rfl := cell_ofn (n := 2) (k := 0) cellsP (by omega) cellsB e2 (c := c2) rfl
  obtain rfl := cell_ofn (n := 2) (k := 1) cellsP (by omega) cellsB e3 (c := c3) rfl
  obtain rfl := cell_ofn (n := 2) (k := 2) cellsP (by omega) cellsB e4 (c := c4) rfl
  obtain rfl := cell_of cellsI e5 (c := c5) rfl
  exact ⟨⟨a0, a1, a2, a3, a4, a5⟩, rfl⟩
/-- a list that comes in -/
def IsIn (w : World) (p : Option Addr) (n : Nat) (A : Nat → Rg) : Prop := ∀ i, i < n → ∃ b o, p = some ⟨b, o, none⟩ ∧ b < w.heap.size ∧ (∀ j x, (A i).enc[j]? = some x → w.cell? ⟨b, o + i * 6 + j, none⟩ = some x)
theorem open_list {H : Type} {enc : TypeId × Value → H} {W : World} {base : Nat} {sp : Nat → Bool} {held : Bool} {v : Value} {x : DataW H} {ps : List MemPlace} {r : Reach} {b0 : Nat}
    (hv : Value.okWide Try.prog W r b0 23 v) (h : DataW.Trod enc Try.prog W base sp held 23 v x ps) :
    ∃ (p : Option Addr) (n c : Nat) (A : Nat → Rg), v = .slice p n c ∧ n ≤ maxLen ∧ IsIn W p n A := by
  obtain ⟨a', l', c', rfl⟩ := okWide_slice Try.underlying23 hv
  obtain ⟨fuel, hf⟩ := h
  rcases Go.Deep.open_slice Try.underlying23 hf with ⟨e, _⟩ | ⟨a, len, cap, m, k, D, Pl, e, hb, hl, hm, hmm, hx, hel⟩
  · have e' : Value.slice a' l' c' = .slice none 0 0 := (List.cons.inj (show [Value.slice a' l' c'] = [.slice none 0 0] from e)).1
    exact ⟨none, 0, 0, fun _ => Rg.zero, e', by omega, fun i hi => absurd hi (Nat.not_lt_zero _)⟩
  · have e' : Value.slice a' l' c' = .slice (some a) len cap := (List.cons.inj (show [Value.slice a' l' c'] = [.slice (some a) len cap] from e)).1
    have hlm : len ≤ m := by rw [hmm]; split <;> omega
    rw [e']
    have each : ∀ i, i < len → ∃ q : Rg, a.spot = none ∧ a.block < W.heap.size ∧ (∀ j x, q.enc[j]? = some x → W.cell? ⟨a.block, a.off + i * 6 + j, none⟩ = some x) := fun i hi => by
      obtain ⟨cs', h1, h2⟩ := hel i (by omega)
      obtain ⟨c2', h3, _⟩ := hel 0 (by omega)
      rw [cellsG] at h1 h3
      obtain ⟨_, hlen, hcell⟩ := World.cells?_some h1
      obtain ⟨_, hlen3, hcell3⟩ := World.cells?_some h3
      have hspot : a.spot = none := by
        have := hcell3 0 (by omega)
        simpa [Addr.add] using World.cell?_spot (this.trans (List.getElem?_eq_getElem (by omega)))
      obtain ⟨q, hq⟩ := rgn_cells h2 (by omega)
      have ad : ∀ j, (a.add (i * 6)).add j = ⟨a.block, a.off + i * 6 + j, none⟩ := fun j => by
        rw [Go.Deep.add_add]
        unfold Addr.add
        by_cases c : i * 6 + j = 0
        · rw [if_pos c]
          have : i * 6 = 0 ∧ j = 0 := by omega
          obtain ⟨bb, oo, ss⟩ := a
          simp only at hspot
          subst hspot
          simp [this.1, this.2]
        · rw [if_neg c]; simp; try omega
      have all : ∀ j x, q.enc[j]? = some x → W.cell? ⟨a.block, a.off + i * 6 + j, none⟩ = some x := fun j z hz => by
        have hj : j < 6 := (List.getElem?_eq_some_iff.1 hz).1
        have hc := hcell j hj
        rw [ad, hq] at hc
        rw [hc]; exact hz
      exact ⟨q, hspot, (by have := lt_of_cell (all 0 _ rfl); exact this), all⟩
    haveI : Inhabited Rg := ⟨Rg.zero⟩
    obtain ⟨q, hq⟩ := Go.Deep.choose_lt each
    refine ⟨some a, len, cap, q, rfl, by omega, fun i hi => ?_⟩
    obtain ⟨s, l, c0⟩ := hq i hi
    obtain ⟨bb, oo, ss⟩ := a
    simp only at s
    subst s
    exact ⟨bb, oo, rfl, l, c0⟩
/-- numbers of at most 40 bits -/
def Rg.cut40 (r : Rg) : Rg := ⟨r.fr.tmod 1099511627776, r.to.tmod 1099511627776, r.w, r.u, r.x, r.kd⟩
def toldL (A : Nat → Rg) : Nat → List Rg
  | 0 => []
  | k + 1 => toldL A k ++ [(A k).cut40]
theorem told_len (A : Nat → Rg) : ∀ k, (toldL A k).length = k
  | 0 => rfl
  | k + 1 => by rw [toldL, List.length_append, told_len A k]; rfl
theorem told_num (A : Nat → Rg) : ∀ k, NumL (toldL A k)
  | 0 => fun i hi => absurd hi (Nat.not_lt_zero _)
  | k + 1 => fun i hi => by
    rw [told_len] at hi
    by_cases c : i < k
    · have := told_num A k i (by rw [told_len]; exact c)
      rw [toldL]
      simpa [List.getD, List.getElem?_append_left (show i < (toldL A k).length by rw [told_len]; exact c)] using this
    · have : i = k := by omega
      subst this
      have e : (toldL A (i + 1)).getD i Rg.zero = (A i).cut40 := by
        rw [toldL]; simp [List.getD, List.getElem?_append_right (show (toldL A i).length ≤ i by rw [told_len]; omega), told_len]
      rw [e]
      unfold Rg.cut40
      have a1 := Int.tmod_lt_of_pos (A i).to (show (0 : Int) < 1099511627776 by omega)
      have a2 := Int.lt_tmod_of_pos (A i).fr (show (0 : Int) < 1099511627776 by omega)
      constructor
      · show -2199023255552 ≤ (A i).fr.tmod 1099511627776; omega
      · show (A i).to.tmod 1099511627776 ≤ 2199023255552; omega
/-- a list of the document's in the making -/
def OwnR (w : World) (base : Nat) (v : Value) (L : List Rg) : Prop := w.ownsRow base 31 6 v L.length (L.flatMap Rg.enc)
theorem ownr_read {w : World} {base : Nat} {v : Value} {L : List Rg} (h : OwnR w base v L) : ∃ p c, v = .slice p L.length c ∧ L.length ≤ c ∧ IsL w base p L := by
  have hh := h
  obtain ⟨h1, h2 | ⟨g, cap, cur, e1, e2, e3, e4, e5, e6, e7⟩⟩ := h
  · refine ⟨none, 0, by rw [h2.1, h2.2], by omega, fun i hi => ?_⟩
    rw [h2.2] at hi; exact absurd hi (Nat.not_lt_zero _)
  · refine ⟨_, cap, e1, e4, fun i hi => ⟨g, rfl, e2, (Array.getElem?_eq_some_iff.1 e3).1, fun j x hx => ?_⟩⟩
    have hj : j < 6 := (List.getElem?_eq_some_iff.1 hx).1
    rw [Go.Joins.cell_of_block e3 _]
    have : (cur.toList.take (L.length * 6))[i * 6 + j]? = (L.flatMap Rg.enc)[i * 6 + j]? := by rw [e7]
    rw [List.getElem?_take, if_pos (by omega), Array.getElem?_toList, flatR_enc L i j hi hj] at this
    rw [this]; exact hx
theorem OwnR.next {w : World} {base : Nat} {v : Value} {L : List Rg} {r : Rg} (h : w.ownsRow base 31 6 v (L.length + 1) (L.flatMap Rg.enc ++ r.enc)) : OwnR w base v (L ++ [r]) := by
  unfold OwnR; simpa [List.flatMap_append] using h
theorem startr (w : World) : OwnR (w.alloc (.cells #[] 31)) w.heap.size (.slice (some ⟨w.heap.size, 0, none⟩) 0 0) [] := ⟨rfl, Or.inr ⟨w.heap.size, 0, #[], rfl, Nat.le_refl _, own1 w _, by simp, by simp, rfl, rfl⟩⟩
theorem startl (w : World) : OwnL (w.alloc (.cells #[] 37)) w.heap.size (.slice (some ⟨w.heap.size, 0, none⟩) 0 0) [] := ⟨rfl, Or.inr ⟨w.heap.size, 0, #[], rfl, Nat.le_refl _, own1 w _, by simp, by simp, rfl, rfl⟩⟩
theorem news_cells1 (u : World) (C : Array Value) (t : TypeId) : ∀ j x, C.toList[j]? = some x → (u.alloc (.cells C t)).cell? ((⟨u.heap.size, 0, none⟩ : Addr).add j) = some x := by
  intro j x hx
  rw [Addr.add_mid, Nat.zero_add]
  exact (Go.Joins.cell_of_block (own1 u (.cells C t)) j).trans (by simpa using hx)

set_option maxHeartbeats 4000000 in
theorem told_any (p : Option Addr) (n c : Nat) (A : Nat → Rg) (hn : n ≤ maxLen) (w : World) (h : IsIn w p n A) :
    Calls Try.prog 9 #[.slice p n c] w fun e w' => ∃ p' c', e = .returned (.slice p' (toldL A (min n 70)).length c') ∧ IsL w' w.heap.size p' (toldL A (min n 70)) ∧ Below w.heap.size w w' := by
  obtain ⟨i0, hi, hz0, hz1, hz2⟩ := info5 rr_info5
  have HA : Hid (IsIn w p n A) := h
  clear h
  have mm : (n : Int) ≤ 9223372036854775807 := by have : maxLen ≤ 9223372036854775807 := by decide +kernel
                                                  omega
  go_enter Try.func9, Try.ntmps9
  go_wp2_with fail
  go_loopw [3, 4] (fun v x W => ∃ k : Nat, k ≤ n ∧ k ≤ 70 ∧ x = .int .i64 k ∧ Hid (OwnR W w.heap.size v (toldL A k)) ∧ Hid (Below w.heap.size w W)) (fun _ x _ => 70 - (intOf x).toNat)
  case atStart => exact ⟨0, by omega, by omega, rfl, startr w, Go.Joins.below_alloc1 _ _⟩
  case round =>
    obtain ⟨k, hk, hk7, rfl, O, Bl⟩ := hrel
    by_cases hlt : k < n ∧ k < 70
    · have hd : decide ((k : Int) < (n : Int)) = true := by simp; omega
      have hd2 : decide ((k : Int) < 70) = true := by simp; omega
      obtain ⟨b, o, rfl, lb, cc⟩ := HA.out k hlt.1
      have NX : Hid (toldL A (k + 1) = toldL A k ++ [(A k).cut40]) := rfl
      have AL : Hid ((toldL A k).length ≤ 100) := by show _ ≤ _; rw [told_len]; omega
      generalize A k = rr at cc NX
      obtain ⟨r1, r2, r3, r4, r5, r6⟩ := rr
      unfold Rg.cut40 at NX
      simp only at NX
      have y0 : wr.cell? ⟨b, o + k * 6, none⟩ = some (.int .i64 r1) := (Bl.out.cell (p := ⟨b, _, none⟩) lb).trans (cc 0 _ rfl)
      have y1 : wr.cell? ⟨b, o + k * 6 + 1, none⟩ = some (.int .i64 r2) := (Bl.out.cell (p := ⟨b, _, none⟩) lb).trans (cc 1 _ rfl)
      have y2 : wr.cell? ⟨b, o + k * 6 + 2, none⟩ = some (.bool r3) := (Bl.out.cell (p := ⟨b, _, none⟩) lb).trans (cc 2 _ rfl)
      have y3 : wr.cell? ⟨b, o + k * 6 + 3, none⟩ = some (.bool r4) := (Bl.out.cell (p := ⟨b, _, none⟩) lb).trans (cc 3 _ rfl)
      have y4 : wr.cell? ⟨b, o + k * 6 + 4, none⟩ = some (.bool r5) := (Bl.out.cell (p := ⟨b, _, none⟩) lb).trans (cc 4 _ rfl)
      have y5 : wr.cell? ⟨b, o + k * 6 + 5, none⟩ = some (.int .i64 r6) := (Bl.out.cell (p := ⟨b, _, none⟩) lb).trans (cc 5 _ rfl)
      clear cc
      have lbw : b < wr.heap.size := Nat.lt_of_lt_of_le lb Bl.out.size
      obtain ⟨c1, hc1⟩ : ∃ x, r1.tmod 1099511627776 = x := ⟨_, rfl⟩
      obtain ⟨c2, hc2⟩ : ∃ x, r2.tmod 1099511627776 = x := ⟨_, rfl⟩
      rw [hc1, hc2] at NX
      generalize toldL A k = L at O AL NX
      have BA : Hid (Below w.heap.size w ((wr.alloc (.cells #[.int .i64 r1, .int .i64 r2, .bool r3, .bool r4, .bool r5, .int .i64 r6] 37)).alloc (.cells #[.int .i64 c1, .int .i64 c2, .bool r3, .bool r4, .bool r5, .int .i64 r6] 31))) := below_new (below_new Bl.out _) _
      have OW : Hid (((wr.alloc (.cells #[.int .i64 r1, .int .i64 r2, .bool r3, .bool r4, .bool r5, .int .i64 r6] 37)).alloc (.cells #[.int .i64 c1, .int .i64 c2, .bool r3, .bool r4, .bool r5, .int .i64 r6] 31)).ownsRow w.heap.size 31 6 u3 L.length (L.flatMap Rg.enc)) := own_keep O.out (Go.Joins.below_alloc2 _ _ _)
      have NW : Hid (∀ j x, ([.int .i64 c1, .int .i64 c2, .bool r3, .bool r4, .bool r5, .int .i64 r6] : List Value)[j]? = some x → ((wr.alloc (.cells #[.int .i64 r1, .int .i64 r2, .bool r3, .bool r4, .bool r5, .int .i64 r6] 37)).alloc (.cells #[.int .i64 c1, .int .i64 c2, .bool r3, .bool r4, .bool r5, .int .i64 r6] 31)).cell? ((⟨wr.heap.size + 1, 0, none⟩ : Addr).add j) = some x) := by
        have := news_cells1 (wr.alloc (.cells #[.int .i64 r1, .int .i64 r2, .bool r3, .bool r4, .bool r5, .int .i64 r6] 37)) #[.int .i64 c1, .int .i64 c2, .bool r3, .bool r4, .bool r5, .int .i64 r6] 31
        simp only [World.size_alloc] at this
        exact this
      have ON : Hid (∀ x ∈ ([.int .i64 c1, .int .i64 c2, .bool r3, .bool r4, .bool r5, .int .i64 r6] : List Value), x.oneCell' = true) := by show ∀ x ∈ ([.int .i64 c1, .int .i64 c2, .bool r3, .bool r4, .bool r5, .int .i64 r6] : List Value), x.oneCell' = true; simp [Value.oneCell']
      have HZ : Hid (w.heap.size ≤ ((wr.alloc (.cells #[.int .i64 r1, .int .i64 r2, .bool r3, .bool r4, .bool r5, .int .i64 r6] 37)).alloc (.cells #[.int .i64 c1, .int .i64 c2, .bool r3, .bool r4, .bool r5, .int .i64 r6] 31)).heap.size) := by show _ ≤ _; have := BA.out.size; omega
      have MX : Hid (L.length + 1 ≤ maxLen) := by show _ ≤ _; unfold maxLen; have := AL.out; omega
      have BY : Hid ((L.length + 1) * 32 ≤ 140737488355328) := by show _ ≤ _; have := AL.out; omega
      go_wp2_with (at_builtin; refine wpList_append_own _ rfl _ _ 26 rfl w.heap.size 31 i0 zrg 6 32 Try.underlying26 hi hz0 hz1 hz2 rfl (by decide) u3 L.length (L.flatMap Rg.enc) rfl OW.out ⟨wr.heap.size + 1, 0, none⟩ 1 1 ([.int .i64 c1, .int .i64 c2, .bool r3, .bool r4, .bool r5, .int .i64 r6] : List Value) rfl rfl NW.out ON.out MX.out BY.out HZ.out ?_; intro v1 a0 hown hg hnil; have O1 : Hid (OwnR a0 w.heap.size v1 (L ++ [Rg.mk c1 c2 r3 r4 r5 r6])) := OwnR.next hown; have B1 : Hid (Below w.heap.size w a0) := below_grown BA.out OW.out hg; clear hown hg hnil OW NW ON HZ MX BY BA)
      go_wp2_with fail
      go_roundw
      case rel => exact ⟨k + 1, by omega, by omega, by go_num, (by show OwnR _ _ _ _; rw [NX.out]; exact O1.out), B1⟩
      case measure => simp [intOf]; omega
    · have km : min n 70 = k := by omega
      have OF : Hid (OwnR wr w.heap.size u3 (toldL A (min n 70))) := by show OwnR _ _ _ _; rw [km]; exact O.out
      obtain ⟨p2, c2, hv2, _, I2⟩ := ownr_read OF.out
      have I2' : Hid (IsL wr w.heap.size p2 (toldL A (min n 70))) := I2
      clear O OF I2
      subst hv2
      by_cases hq : k < n
      · have hd : decide ((k : Int) < (n : Int)) = true := by simp; omega
        have hd2 : decide ((k : Int) < 70) = false := by simp; omega
        clear hlt km
        go_wp2_with fail
        go_ret
        exact ⟨p2, c2, rfl, I2'.out, Bl.out⟩
      · have hd : decide ((k : Int) < (n : Int)) = false := by simp; omega
        clear hlt km
        go_wp2_with fail
        go_ret
        exact ⟨p2, c2, rfl, I2'.out, Bl.out⟩

set_option maxHeartbeats 4000000 in
theorem of_any (base : Nat) (p : Option Addr) (c : Nat) (M : List Rg) (hM : M.length ≤ 100) (w : World) (h : IsL w base p M) :
    Calls Try.prog 11 #[.slice p M.length c] w fun e w' => ∃ p' c', e = .returned (.slice p' M.length c') ∧ M.length ≤ c' ∧ IsL w' w.heap.size p' M ∧ Below w.heap.size w w' := by
  obtain ⟨i0, hi, hz0, hz1, hz2⟩ := info5 rg_info5
  have HI : Hid (IsL w base p M) := h
  have ONE : Hid (∀ (r : Rg) (W : World), Calls Try.prog 12 #[r.val] W fun e w' => e = .returned r.val ∧ Below W.heap.size W w') := one_any
  clear h
  obtain ⟨n, hn⟩ : ∃ n, M.length = n := ⟨_, rfl⟩
  have HN : Hid (M.length = n) := hn
  rw [hn] at hM ⊢
  clear hn
  go_enter Try.func11, Try.ntmps11
  go_wp2_with fail
  go_loopw [3, 9] (fun v x W => ∃ k : Nat, k ≤ n ∧ x = .int .i64 k ∧ Hid (OwnL W w.heap.size v (M.take k)) ∧ Hid (Below w.heap.size w W)) (fun _ x _ => n - (intOf x).toNat)
  case atStart => exact ⟨0, by omega, rfl, startl w, Go.Joins.below_alloc1 _ _⟩
  case round =>
    obtain ⟨k, hk, rfl, O, Bl⟩ := hrel
    by_cases hlt : k < n
    · have hd : decide ((k : Int) < (n : Int)) = true := by simp; omega
      obtain ⟨g, rfl, g1, g2, gc⟩ := (HI.out.below Bl.out) k (by rw [HN.out]; exact hlt)
      have NX : Hid (M.take (k + 1) = M.take k ++ [M.getD k Rg.zero]) := takeR_next M k (by rw [HN.out]; exact hlt)
      have AL : Hid ((M.take k).length ≤ 100) := by show _ ≤ _; rw [List.length_take]; omega
      generalize M.getD k Rg.zero = rr at gc NX
      have O2 : Hid _ := ONE.out rr
      obtain ⟨r1, r2, r3, r4, r5, r6⟩ := rr
      have y0 : wr.cell? ⟨g, k * 6, none⟩ = some (.int .i64 r1) := gc 0 _ rfl
      have y1 : wr.cell? ⟨g, k * 6 + 1, none⟩ = some (.int .i64 r2) := gc 1 _ rfl
      have y2 : wr.cell? ⟨g, k * 6 + 2, none⟩ = some (.bool r3) := gc 2 _ rfl
      have y3 : wr.cell? ⟨g, k * 6 + 3, none⟩ = some (.bool r4) := gc 3 _ rfl
      have y4 : wr.cell? ⟨g, k * 6 + 4, none⟩ = some (.bool r5) := gc 4 _ rfl
      have y5 : wr.cell? ⟨g, k * 6 + 5, none⟩ = some (.int .i64 r6) := gc 5 _ rfl
      clear gc
      generalize M.take k = L at O AL NX
      go_wp2_with fail
      refine (O2.out _).mono ?_
      rintro e u1 ⟨rfl, hb1⟩
      have BU : Hid (Below w.heap.size w u1) := below_then (below_new Bl.out _) hb1
      have BW : Hid (Below wr.heap.size wr u1) := below_then (Go.Joins.below_alloc1 _ _) hb1
      have BA : Hid (Below w.heap.size w (u1.alloc (.cells #[.int .i64 r1, .int .i64 r2, .bool r3, .bool r4, .bool r5, .int .i64 r6] 37))) := below_new BU.out _
      clear hb1 y0 y1 y2 y3 y4 y5
      have OW : Hid ((u1.alloc (.cells #[.int .i64 r1, .int .i64 r2, .bool r3, .bool r4, .bool r5, .int .i64 r6] 37)).ownsRow w.heap.size 37 6 u3 L.length (L.flatMap Rg.enc)) := own_keep O.out (below_then BW.out (Go.Joins.below_alloc1 _ _))
      have NW : Hid (∀ j x, ([.int .i64 r1, .int .i64 r2, .bool r3, .bool r4, .bool r5, .int .i64 r6] : List Value)[j]? = some x → (u1.alloc (.cells #[.int .i64 r1, .int .i64 r2, .bool r3, .bool r4, .bool r5, .int .i64 r6] 37)).cell? ((⟨u1.heap.size, 0, none⟩ : Addr).add j) = some x) := by
        have := news_cells1 u1 #[.int .i64 r1, .int .i64 r2, .bool r3, .bool r4, .bool r5, .int .i64 r6] 37
        exact this
      have ON : Hid (∀ x ∈ ([.int .i64 r1, .int .i64 r2, .bool r3, .bool r4, .bool r5, .int .i64 r6] : List Value), x.oneCell' = true) := by show ∀ x ∈ ([.int .i64 r1, .int .i64 r2, .bool r3, .bool r4, .bool r5, .int .i64 r6] : List Value), x.oneCell' = true; simp [Value.oneCell']
      have HZ : Hid (w.heap.size ≤ (u1.alloc (.cells #[.int .i64 r1, .int .i64 r2, .bool r3, .bool r4, .bool r5, .int .i64 r6] 37)).heap.size) := by show _ ≤ _; have := BA.out.size; omega
      have MX : Hid (L.length + 1 ≤ maxLen) := by show _ ≤ _; unfold maxLen; have := AL.out; omega
      have BY : Hid ((L.length + 1) * 32 ≤ 140737488355328) := by show _ ≤ _; have := AL.out; omega
      go_wp2_with (at_builtin; refine wpList_append_own _ rfl _ _ 23 rfl w.heap.size 37 i0 zrg 6 32 Try.underlying23 hi hz0 hz1 hz2 rfl (by decide) u3 L.length (L.flatMap Rg.enc) rfl OW.out ⟨u1.heap.size, 0, none⟩ 1 1 ([.int .i64 r1, .int .i64 r2, .bool r3, .bool r4, .bool r5, .int .i64 r6] : List Value) rfl rfl NW.out ON.out MX.out BY.out HZ.out ?_; intro v1 a0 hown hg hnil; have O1 : Hid (OwnL a0 w.heap.size v1 (L ++ [Rg.mk r1 r2 r3 r4 r5 r6])) := OwnL.next hown; have B1 : Hid (Below w.heap.size w a0) := below_grown BA.out OW.out hg; clear hown hg hnil OW NW ON HZ MX BY BA)
      go_wp2_with fail
      go_roundw
      case rel => exact ⟨k + 1, by omega, by go_num, (by show OwnL _ _ _ _; rw [NX.out]; exact O1.out), B1⟩
      case measure => simp [intOf]; omega
    · obtain rfl : k = n := by omega
      have OF : Hid (OwnL wr w.heap.size u3 M) := by
        have := O.out
        rw [← HN.out, List.take_length] at this; exact this
      obtain ⟨p2, c2, hv2, hc2, I2⟩ := own_readb OF.out
      have I2' : Hid (M.length ≤ c2 ∧ IsL wr w.heap.size p2 M) := ⟨hc2, I2⟩
      rw [HN.out] at hv2
      clear O OF I2 hc2
      subst hv2
      have hd : decide ((k : Int) < (k : Int)) = false := by simp
      go_wp2_with fail
      go_ret
      exact ⟨p2, c2, rfl, (by rw [← HN.out]; exact I2'.out.1), I2'.out.2, Bl.out⟩
end Go.Proofs.Ytngaodfajihmmaa
