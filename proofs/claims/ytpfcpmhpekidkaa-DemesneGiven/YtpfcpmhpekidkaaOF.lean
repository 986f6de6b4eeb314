/- Boot maps: an area's bytes. -/
import Derived.Test.YtpfcpmhpekidkaaOE
namespace Go.Proofs.Ytpfcpmhpekidkaa.Bm
open Go.ChangeShapes Go.WideShapes Go.ChangeAt Go.RowKit Go.Maps
set_option linter.unusedSimpArgs false
set_option linter.unusedVariables false
set_option maxRecDepth 8000

/-- a block of twenty bytes -/
def Pg (W : World) (g : Nat) (E : Nat → Int) : Prop := ∃ cs : List Value, Blk W g cs 5 ∧ cs.length = 20 ∧ ∀ q, q < 20 → cs[q]? = some (.int .u8 (E q))
theorem Pg.cell {W : World} {g : Nat} {E : Nat → Int} (h : Pg W g E) {q : Nat} (hq : q < 20) : W.cell? ⟨g, q, none⟩ = some (.int .u8 (E q)) ∧ W.frozen? ⟨g, q, none⟩ = false := by
  obtain ⟨cs, hb, hl, h⟩ := h
  exact ⟨(hb.cell q).trans (h q hq), hb.free q⟩
theorem Pg.set {W : World} {g : Nat} {E : Nat → Int} (h : Pg W g E) {q : Nat} (hq : q < 20) (v : Int) : Pg (W.setCell ⟨g, q, none⟩ (.int .u8 v)) g (fun x => if x = q then v else E x) := by
  obtain ⟨cs, hb, hl, h⟩ := h
  refine ⟨cs.set q (.int .u8 v), hb.set q _, by rw [List.length_set]; exact hl, fun x hx => ?_⟩
  by_cases e : x = q
  · subst e; rw [List.getElem?_set_self (by omega)]; simp
  · rw [List.getElem?_set_ne (Ne.symm e)]; simp only [if_neg e]; exact h x hx
theorem Pg.congr {W : World} {g : Nat} {E E' : Nat → Int} (h : Pg W g E) (he : ∀ q, q < 20 → E q = E' q) : Pg W g E' := by
  obtain ⟨cs, hb, hl, h⟩ := h
  exact ⟨cs, hb, hl, fun q hq => by rw [← he q hq]; exact h q hq⟩
theorem Pg.drew {W : World} {g : Nat} {E : Nat → Int} (h : Pg W g E) : Pg W.drew g E := h
def lst (E : Nat → Int) (n : Nat) : List Int := (List.range n).map E
theorem lst_len (E : Nat → Int) (n : Nat) : (lst E n).length = n := by simp [lst]
theorem Pg.own {W : World} {g base : Nat} {E : Nat → Int} (h : Pg W g E) (hb : base ≤ g) : OL 5 1 eB W base (.slice (some ⟨g, 0, none⟩) 20 20) (lst E 20) := by
  obtain ⟨cs, hk, hl, h⟩ := h
  have e : (lst E 20).flatMap eB = cs := by
    apply List.ext_getElem?
    intro q
    by_cases hq : q < 20
    · have := flat_get eB_len (lst E 20) q (by rw [lst_len]; exact hq) 0 (by omega)
      rw [Nat.mul_one, Nat.add_zero] at this
      rw [this, h q hq]
      simp [lst, eB]
    · rw [List.getElem?_eq_none (by rw [flat_len eB_len, lst_len]; omega), List.getElem?_eq_none (by omega)]
  refine ⟨by rw [flat_len eB_len], Or.inr ⟨g, 20, cs.toArray, by rw [lst_len], hb, hk, by rw [lst_len]; exact Nat.le_refl _, by unfold maxLen; omega, by simp [hl], ?_⟩⟩
  rw [e, lst_len]
  simp [← hl]
/-- a number's byte -/
def bt (x : Int) (i : Nat) : Int := x / 256 ^ i % 256
theorem bt_bd (x : Int) (i : Nat) : 0 ≤ bt x i ∧ bt x i < 256 := by unfold bt; omega
theorem pow256' (n : Nat) : (2 : Int) ^ (8 * n) = 256 ^ n := by rw [Int.pow_mul]; rfl
theorem byte_is (x : Int) (j : Int) (j0 : 0 ≤ j) : x / 2 ^ (8 * j).toNat % 256 = bt x j.toNat := by
  rw [show (8 * j).toNat = 8 * j.toNat by omega, pow256']; rfl
theorem mod_step (X P : Nat) (hP : 0 < P) : X % (P * 256) = X % P + X / P % 256 * P := by
  rw [Nat.mod_mul, Nat.mul_comm]
theorem le_bt {c : Nat → Int} {a : Nat} {x : Int} (x0 : 0 ≤ x) : ∀ n, (∀ i, i < n → c (a + i) = bt x i) → le c a n = x % 256 ^ n
  | 0, _ => by simp [le]
  | n + 1, h => by
    rw [le, le_bt x0 n (fun i hi => h i (by omega)), h n (by omega)]
    unfold bt
    obtain ⟨X, rfl⟩ : ∃ X : Nat, x = X := ⟨x.toNat, by omega⟩
    have := mod_step X (256 ^ n) (Nat.pow_pos (by omega))
    have e : ((256 ^ n : Nat) : Int) = 256 ^ n := by rw [Int.natCast_pow]; rfl
    rw [Int.pow_succ, ← e]
    have := congrArg (fun q : Nat => (q : Int)) this
    simp only [Int.natCast_emod, Int.natCast_add, Int.natCast_mul, Int.natCast_ediv] at this
    rw [show (((256 : Nat)) : Int) = 256 from rfl] at this
    exact this.symm
def ent1 (f l : Int) (k : Nat) : Nat → Int := fun q => if q < k then bt f q else if 8 ≤ q ∧ q < 8 + k then bt l (q - 8) else 0
def ent2 (f l d : Int) (k : Nat) : Nat → Int := fun q => if 16 ≤ q ∧ q < 16 + k then bt d (q - 16) else ent1 f l 8 q
/-- the bytes of an area -/
def entB (x : Ar) : List Int := lst (ent2 x.f x.l x.k 4) 20
theorem makeB (w : World) : ∃ w', (Instr.makeSlice 22 (.int .i64 20) (.int .i64 20)).run Try.prog w = .ok (.slice (some ⟨w.heap.size, 0, none⟩) 20 20) w' ∧ Pg w' w.heap.size (ent1 0 0 0) ∧ Below w.heap.size w w' := by
  obtain ⟨i0, hq, h1, h2, h3⟩ := infoB
  have r := run_make (P := Try.prog) w 22 5 i0 (.int .u8 0) Try.underlying22 hq h1 .i64 .i64 20 20 (by omega) (by omega) (by rw [h3]; omega) (by omega)
  rw [show (20 : Int).toNat = 20 from rfl, h2, Nat.mul_one] at r
  refine ⟨_, r, ⟨(madeCells (Value.int .u8 0).cells 20).toList, ?_, ?_, fun q hq => ?_⟩, Go.Joins.below_alloc1 _ _⟩
  · have := own1 w (.cells (madeCells (Value.int .u8 0).cells 20) 5)
    show _ = _
    rw [Array.toArray_toList]; exact this
  · rw [Array.length_toList, size_madeCells]
  · rw [Array.getElem?_toList]
    unfold madeCells ent1
    simp [hq, Value.cells]
    rw [Nat.mod_one]
    rw [if_neg (by omega)]; rfl
set_option maxHeartbeats 2000000 in
theorem entry_call (f l d : Int) (f0 : 0 ≤ f) (f1 : f < 18446744073709551616) (l0 : 0 ≤ l) (l1 : l < 18446744073709551616) (d0 : 0 ≤ d) (d1 : d < 4294967296) (w : World) :
    Calls Try.prog 19 #[.int .u64 f, .int .u64 l, .int .u32 d] w fun e w' => ∃ g, e = .returned (.slice (some ⟨g, 0, none⟩) 20 20) ∧ OL 5 1 eB w' w.heap.size (.slice (some ⟨g, 0, none⟩) 20 20) (entB ⟨f, l, d⟩) ∧ Below w.heap.size w w' := by
  obtain ⟨w1, hr, P0, B0⟩ := makeB w
  obtain ⟨g, hg⟩ : ∃ g, w.heap.size = g := ⟨_, rfl⟩
  have HG : Hid (w.heap.size = g) := hg
  rw [hg] at P0 hr
  have HP0 : Hid (Pg w1 g (ent1 f l 0) ∧ Below w.heap.size w w1) := ⟨P0.congr (fun q _ => by unfold ent1; rw [if_neg (by omega), if_neg (by omega), if_neg (by omega), if_neg (by omega)]), B0⟩
  clear P0 B0 hg
  go_enter Try.func19, Try.ntmps19
  go_wp2_with fail
  go_loopw [8] (fun i W => ∃ j : Int, 0 ≤ j ∧ j ≤ 8 ∧ i = .int .i64 j ∧ Hid (Pg W g (ent1 f l j.toNat) ∧ Below w.heap.size w W)) (fun i _ => (8 - Go.RowKit.intOf i).toNat)
  case atStart => exact ⟨0, by omega, by omega, rfl, HP0⟩
  case round =>
    clear HP0 hr
    obtain ⟨j, j0, j8, rfl, J⟩ := hrel
    by_cases cj : j < 8
    · have e1 : decide (j < 8) = true := decide_eq_true cj
      obtain ⟨y0, y1⟩ := J.out.1.cell (q := j.toNat) (by omega)
      have HJ : Hid (Pg wr g (ent1 f l j.toNat)) := J.out.1
      have S1 := J.out.1.set (q := j.toNat) (by omega) (f / 2 ^ (8 * j).toNat % 256)
      have HS1 : Hid (Pg (wr.setCell ⟨g, j.toNat, none⟩ (.int .u8 (f / 2 ^ (8 * j).toNat % 256))) g (fun x => if x = j.toNat then f / 2 ^ (8 * j).toNat % 256 else ent1 f l j.toNat x) ∧ Below w.heap.size w (wr.setCell ⟨g, j.toNat, none⟩ (.int .u8 (f / 2 ^ (8 * j).toNat % 256)))) := ⟨S1, J.out.2.setCell (p := ⟨g, j.toNat, none⟩) (by show _ ≤ g; have := HG.out; omega) _⟩
      clear S1 J y0 y1
      obtain ⟨y0, y1⟩ := (show Pg wr g (ent1 f l j.toNat) from HJ.out).cell (q := j.toNat) (by omega)
      go_upto_region 6 with fail
      clear y0 y1
      generalize wr.setCell ⟨g, j.toNat, none⟩ (.int .u8 (f / 2 ^ (8 * j).toNat % 256)) = X at HS1 ⊢
      obtain ⟨y2, y3⟩ := HS1.out.1.cell (q := (8 + j).toNat) (by omega)
      have S2 := HS1.out.1.set (q := (8 + j).toNat) (by omega) (l / 2 ^ (8 * j).toNat % 256)
      have J2 : Hid (Pg (X.setCell ⟨g, (8 + j).toNat, none⟩ (.int .u8 (l / 2 ^ (8 * j).toNat % 256))) g (ent1 f l (j + 1).toNat) ∧ Below w.heap.size w (X.setCell ⟨g, (8 + j).toNat, none⟩ (.int .u8 (l / 2 ^ (8 * j).toNat % 256)))) := by
        refine ⟨S2.congr (fun q hq => ?_), HS1.out.2.setCell (p := ⟨g, (8 + j).toNat, none⟩) (by show _ ≤ g; have := HG.out; omega) _⟩
        rw [byte_is f j j0, byte_is l j j0]
        unfold ent1
        by_cases q1 : q = (8 + j).toNat
        · rw [if_pos q1, if_neg (by omega), if_pos (by omega), show q - 8 = j.toNat by omega]
        · rw [if_neg q1]
          by_cases q2 : q = j.toNat
          · rw [if_pos q2, if_pos (by omega), q2]
          · rw [if_neg q2]
            by_cases q3 : q < j.toNat
            · rw [if_pos q3, if_pos (by omega)]
            · have a1 : ¬ q < (j + 1).toNat := by omega
              by_cases q4 : 8 ≤ q ∧ q < 8 + j.toNat
              · have a2 : 8 ≤ q ∧ q < 8 + (j + 1).toNat := by omega
                rw [if_neg q3, if_pos q4, if_neg a1, if_pos a2]
              · have a2 : ¬ (8 ≤ q ∧ q < 8 + (j + 1).toNat) := by omega
                rw [if_neg q3, if_neg q4, if_neg a1, if_neg a2]
      clear S2 HS1 HJ
      generalize ent1 f l j.toNat (8 + j).toNat = old at y2
      go_wp2_with fail
      go_roundw
      case rel => exact ⟨j + 1, by omega, by omega, rfl, J2⟩
      case measure => simp [Go.RowKit.intOf]; omega
    · obtain rfl : j = 8 := by omega
      have e1 : decide ((8 : Int) < 8) = false := by decide
      have P1 : Hid (Pg wr g (ent2 f l d 0) ∧ Below w.heap.size w wr) := ⟨J.out.1.congr (fun q _ => by unfold ent2; rw [if_neg (by omega)]; rfl), J.out.2⟩
      clear J
      go_wp2_with fail
      go_loopw [9] (fun i W => ∃ j : Int, 0 ≤ j ∧ j ≤ 4 ∧ i = .int .i64 j ∧ Hid (Pg W g (ent2 f l d j.toNat) ∧ Below w.heap.size w W)) (fun i _ => (4 - Go.RowKit.intOf i).toNat)
      case atStart => exact ⟨0, by omega, by omega, rfl, P1⟩
      case round =>
        clear P1
        obtain ⟨j, j0, j8, rfl, J⟩ := hrel
        by_cases cj : j < 4
        · have e1 : decide (j < 4) = true := decide_eq_true cj
          obtain ⟨y0, y1⟩ := J.out.1.cell (q := (16 + j).toNat) (by omega)
          have S1 := J.out.1.set (q := (16 + j).toNat) (by omega) (d / 2 ^ (8 * j).toNat % 256)
          have J2 : Hid (Pg (wr.setCell ⟨g, (16 + j).toNat, none⟩ (.int .u8 (d / 2 ^ (8 * j).toNat % 256))) g (ent2 f l d (j + 1).toNat) ∧ Below w.heap.size w (wr.setCell ⟨g, (16 + j).toNat, none⟩ (.int .u8 (d / 2 ^ (8 * j).toNat % 256)))) := by
            refine ⟨S1.congr (fun q hq => ?_), J.out.2.setCell (p := ⟨g, (16 + j).toNat, none⟩) (by show _ ≤ g; have := HG.out; omega) _⟩
            rw [byte_is d j j0]
            unfold ent2
            by_cases q1 : q = (16 + j).toNat
            · rw [if_pos q1, if_pos (by omega), show q - 16 = j.toNat by omega]
            · rw [if_neg q1]
              by_cases q4 : 16 ≤ q ∧ q < 16 + j.toNat
              · rw [if_pos q4, if_pos (by omega)]
              · rw [if_neg q4, if_neg (by omega)]
          clear S1 J
          generalize ent2 f l d j.toNat (16 + j).toNat = old at y0
          go_wp2_with fail
          go_roundw
          case rel => exact ⟨j + 1, by omega, by omega, rfl, J2⟩
          case measure => simp [Go.RowKit.intOf]; omega
        · obtain rfl : j = 4 := by omega
          have e1 : decide ((4 : Int) < 4) = false := by decide
          go_wp2_with fail
          go_ret
          exact ⟨g, rfl, J.out.1.own (by have := HG.out; omega), J.out.2⟩
theorem ent_byt (x : Ar) : ∀ y ∈ entB x, 0 ≤ y ∧ y < 256 := by
  intro y hy
  unfold entB lst at hy
  obtain ⟨q, _, rfl⟩ := List.mem_map.1 hy
  unfold ent2 ent1
  split
  · exact bt_bd _ _
  · split
    · exact bt_bd _ _
    · split
      · exact bt_bd _ _
      · omega
theorem ent_len (x : Ar) : (entB x).length = 20 := lst_len _ _
/-- an area's bytes are read as the area -/
theorem ent_back {x : Ar} (hx : x.wf) {B : Nat → Int} {a : Nat} (h : ∀ i, i < 20 → B (a + i) = (entB x).getD i 0) : arB B a = x := by
  have g : ∀ i, i < 20 → B (a + i) = ent2 x.f x.l x.k 4 i := fun i hi => by
    rw [h i hi, List.getD_eq_getElem?_getD]
    simp [entB, lst, hi]
  obtain ⟨⟨f0, f1⟩, ⟨l0, l1⟩, ⟨k0, k1⟩⟩ := hx
  have h1 : le B a 8 = x.f % 256 ^ 8 := le_bt f0 8 (fun i hi => by rw [g i (by omega)]; unfold ent2 ent1; rw [if_neg (by omega), if_pos hi])
  have h2 : le B (a + 8) 8 = x.l % 256 ^ 8 := le_bt l0 8 (fun i hi => by rw [Nat.add_assoc, g (8 + i) (by omega)]; unfold ent2 ent1; rw [if_neg (by omega), if_neg (by omega), if_pos (by omega), show 8 + i - 8 = i by omega])
  have h3 : le B (a + 16) 4 = x.k % 256 ^ 4 := le_bt k0 4 (fun i hi => by rw [Nat.add_assoc, g (16 + i) (by omega)]; unfold ent2; rw [if_pos (by omega), show 16 + i - 16 = i by omega])
  unfold arB
  rw [h1, h2, h3]
  have e1 : x.f % 256 ^ 8 = x.f := Int.emod_eq_of_lt f0 (by simpa using f1)
  have e2 : x.l % 256 ^ 8 = x.l := Int.emod_eq_of_lt l0 (by simpa using l1)
  have e3 : x.k % 256 ^ 4 = x.k := Int.emod_eq_of_lt k0 (by simpa using k1)
  rw [e1, e2, e3]
end Go.Proofs.Ytpfcpmhpekidkaa.Bm
