/- Grants: Accept, Leave, Revoke. -/
import Derived.Test.YtenfdcjnfgjilaaS1
import Derived.Deep.DeepCutAuto
namespace Go.Proofs.Ytenfdcjnfgjilaa
open Go.ChangeShapes Go.WideShapes Go.ChangeAt Go.RowKit Go.Maps
set_option linter.unusedSimpArgs false
set_option linter.unusedVariables false
set_option maxRecDepth 8000
set_option maxRecDepth 8000
set_option maxRecDepth 8000

theorem range_at {w : World} {b : Nat} {cs : List Value} {v : Value} (h : w.rangeAt b 0 cs) (i : Nat) (hi : cs[i]? = some v) : w.cell? ⟨b, i, none⟩ = some v := by have := h i v hi; rwa [Nat.zero_add] at this
theorem there_below {w W : World} {b o n : Nat} (h : w.there b o n) (hb : b < w.heap.size) (hB : Below w.heap.size w W) : W.there b o n := fun j hj => by
  rw [hB.cell (p := ⟨b, o + j, none⟩) hb, hB.frozen (p := ⟨b, o + j, none⟩) hb]; exact h j hj
theorem range_below {w W : World} {b o : Nat} {cs : List Value} (h : w.rangeAt b o cs) (hb : b < w.heap.size) (hB : Below w.heap.size w W) : W.rangeAt b o cs := fun j v hj => by
  rw [hB.cell (p := ⟨b, o + j, none⟩) hb]; exact h j v hj
theorem there_grown {w W : World} {b o n c : Nat} (h : w.there b o n) (hb : b < w.heap.size) (hne : b ≠ c) (hB : w.grownBy W (some c)) : W.there b o n := fun j hj => by
  have e := hB.block b hb (fun e => hne (Option.some.inj e))
  have e1 : W.cell? ⟨b, o + j, none⟩ = w.cell? ⟨b, o + j, none⟩ := World.cell?_of_block (w := w) (a := ⟨b, o + j, none⟩) e
  have e2 : W.frozen? ⟨b, o + j, none⟩ = w.frozen? ⟨b, o + j, none⟩ := World.frozen?_of_block (w := w) (a := ⟨b, o + j, none⟩) e
  rw [e1, e2]; exact h j hj
theorem range_grown {w W : World} {b o c : Nat} {cs : List Value} (h : w.rangeAt b o cs) (hb : b < w.heap.size) (hne : b ≠ c) (hB : w.grownBy W (some c)) : W.rangeAt b o cs := fun j v hj => by
  have e := hB.block b hb (fun e => hne (Option.some.inj e))
  exact (World.cell?_of_block (w := w) (a := ⟨b, o + j, none⟩) e).trans (h j v hj)
theorem range_block (w : World) (C : Array Value) (t : TypeId) : (w.alloc (.cells C t)).rangeAt w.heap.size 0 C.toList := fun j v hj => by
  rw [Nat.zero_add]
  exact (Go.Joins.cell_of_block (own1 w (.cells C t)) j).trans (by simpa using hj)
theorem grown_box {w W X : World} {b : Nat} (h : W.grownBy X (some w.heap.size)) (B : Below w.heap.size w W) : w.grownBy X (some b) :=
  ⟨h.os.trans B.os, h.tape.trans B.tape, h.output.trans B.output, Nat.le_trans B.size h.size, fun k hk hne => (h.block k (Nat.lt_of_lt_of_le hk B.size) (fun e => by have := Option.some.inj e; omega)).trans (B.block k hk)⟩
theorem IsTab.same {w w' : World} {b : Nat} {T : Nat → Gr} (h : IsTab w b T) (hs : w.heap.size ≤ w'.heap.size) (e : w'.heap[b]? = w.heap[b]?) : IsTab w' b T := by
  obtain ⟨h1, h2, h3⟩ := h
  refine ⟨fun i hi j v hv => ?_, fun j hj => ?_, Nat.lt_of_lt_of_le h3 hs⟩
  · exact (World.cell?_of_block (w := w) (a := ⟨b, i * 6 + j, none⟩) e).trans (h1 i hi j v hv)
  · have e1 : w'.cell? ⟨b, 0 + j, none⟩ = w.cell? ⟨b, 0 + j, none⟩ := World.cell?_of_block (w := w) (a := ⟨b, 0 + j, none⟩) e
    have e2 : w'.frozen? ⟨b, 0 + j, none⟩ = w.frozen? ⟨b, 0 + j, none⟩ := World.frozen?_of_block (w := w) (a := ⟨b, 0 + j, none⟩) e
    rw [e1, e2]; exact h2 j hj
theorem tab_box {w W X : World} {b : Nat} {T : Nat → Gr} (T1 : IsTab W b T) (h : W.grownBy X (some w.heap.size)) (B : Below w.heap.size w W) (hb : b < w.heap.size) : IsTab X b T :=
  T1.same h.size (h.block b T1.2.2 (fun e => by have := Option.some.inj e; omega))
theorem tab_box2 {w V X : World} {b : Nat} {T : Nat → Gr} (T1 : IsTab V b T) (h : V.grownBy X (some w.heap.size)) (hb : b < w.heap.size) : IsTab X b T :=
  T1.same h.size (h.block b T1.2.2 (fun e => by have := Option.some.inj e; omega))
theorem grown_box2 {w U V X : World} {b : Nat} (B : Below w.heap.size w U) (g : U.grownBy V (some b)) (h : V.grownBy X (some w.heap.size)) : w.grownBy X (some b) :=
  ⟨h.os.trans (g.os.trans B.os), h.tape.trans (g.tape.trans B.tape), h.output.trans (g.output.trans B.output), Nat.le_trans B.size (Nat.le_trans g.size h.size), fun k hk hne => (h.block k (Nat.lt_of_lt_of_le hk (Nat.le_trans B.size g.size)) (fun e => by have := Option.some.inj e; omega)).trans ((g.block k (Nat.lt_of_lt_of_le hk B.size) hne).trans (B.block k hk))⟩
theorem grown6 (V : World) (B : Nat) (v0 v1 v2 v3 v4 v5 : Value) : V.grownBy ((((((V.setCell ⟨B, 0, none⟩ v0).setCell ⟨B, 1, none⟩ v1).setCell ⟨B, 2, none⟩ v2).setCell ⟨B, 3, none⟩ v3).setCell ⟨B, 4, none⟩ v4).setCell ⟨B, 5, none⟩ v5) (some B) :=
  grown_trans (grown_trans (grown_trans (grown_trans (grown_trans (grown_setCell1 _ _ _ _) (grown_setCell1 _ _ _ _)) (grown_setCell1 _ _ _ _)) (grown_setCell1 _ _ _ _)) (grown_setCell1 _ _ _ _)) (grown_setCell1 _ _ _ _)
theorem put_put (T : Nat → Gr) (k : Nat) (x y : Gr) : putT (putT T k x) k y = putT T k y := by
  funext j; unfold putT; by_cases c : j = k <;> simp [c]
def accE (T : Nat → Gr) (i o a : Int) : Int := if (getG T i).is = false ∨ (getG T i).dst ≠ o then 5 else if (getG T i).tk = true then 11 else if isPage a = false then 1 else 0
def Gr.take (g : Gr) (a : Int) : Gr := ⟨g.fr, g.pg, g.dst, g.wr, true, a⟩
def Gr.leave (g : Gr) : Gr := ⟨g.fr, g.pg, g.dst, g.wr, false, 0⟩
def accT (T : Nat → Gr) (i o a : Int) : Nat → Gr := if accE T i o a = 0 then putT T i.toNat ((T i.toNat).take a) else T
def leaE (T : Nat → Gr) (i o : Int) : Int := if (getG T i).is = false ∨ (getG T i).dst ≠ o ∨ (getG T i).tk = false then 5 else 0
def leaG (T : Nat → Gr) (i o : Int) : Gr := if leaE T i o = 0 then getG T i else Gr.zero
def leaT (T : Nat → Gr) (i o : Int) : Nat → Gr := if leaE T i o = 0 then putT T i.toNat ((T i.toNat).leave) else T
def revE (T : Nat → Gr) (i o : Int) : Int := if (getG T i).is = false ∨ (getG T i).fr ≠ o then 5 else 0
def revG (T : Nat → Gr) (i o : Int) : Gr := if revE T i o = 0 then getG T i else Gr.zero
def revT (T : Nat → Gr) (i o : Int) : Nat → Gr := if revE T i o = 0 then putT T i.toNat Gr.zero else T
theorem acc_tab {U : World} {b n k : Nat} {T : Nat → Gr} {lf lp ld la a : Int} {lw : Bool} (h : IsTab U b T) (hk : k < 256) (hl : T k = ⟨lf, lp, ld, lw, false, la⟩) (hn : b < n) : IsTab ((((((((U.setCell ⟨n, 4, none⟩ (.bool true)).setCell ⟨n, 5, none⟩ (.int .i64 a)).setCell ⟨b, k * 6, none⟩ (.int .i64 lf)).setCell ⟨b, k * 6 + 1, none⟩ (.int .i64 lp)).setCell ⟨b, k * 6 + 2, none⟩ (.int .i64 ld)).setCell ⟨b, k * 6 + 3, none⟩ (.bool lw)).setCell ⟨b, k * 6 + 4, none⟩ (.bool true)).setCell ⟨b, k * 6 + 5, none⟩ (.int .i64 a)).drew b (putT T k (Gr.take ⟨lf, lp, ld, lw, false, la⟩ a)) := by
  have g1 : U.grownBy ((U.setCell ⟨n, 4, none⟩ (.bool true)).setCell ⟨n, 5, none⟩ (.int .i64 a)) (some n) := grown_trans (grown_setCell1 _ _ _ _) (grown_setCell1 _ _ _ _)
  have h1 := h.same g1.size (g1.block b h.2.2 (fun e => by have := Option.some.inj e; omega))
  have h2 := h1.put k hk (Gr.take ⟨lf, lp, ld, lw, false, la⟩ a)
  simp only [World.setCells, Gr.take, Gr.enc] at h2
  exact IsTab.drew h2
theorem acc_grown {w U : World} {b n k : Nat} {lf lp ld a : Int} {lw : Bool} (h : w.grownBy U (some b)) (hn : b < n) (hw : w.heap.size ≤ n) : w.grownBy ((((((((U.setCell ⟨n, 4, none⟩ (.bool true)).setCell ⟨n, 5, none⟩ (.int .i64 a)).setCell ⟨b, k * 6, none⟩ (.int .i64 lf)).setCell ⟨b, k * 6 + 1, none⟩ (.int .i64 lp)).setCell ⟨b, k * 6 + 2, none⟩ (.int .i64 ld)).setCell ⟨b, k * 6 + 3, none⟩ (.bool lw)).setCell ⟨b, k * 6 + 4, none⟩ (.bool true)).setCell ⟨b, k * 6 + 5, none⟩ (.int .i64 a)).drew (some b) := by
  have g1 : U.grownBy ((U.setCell ⟨n, 4, none⟩ (.bool true)).setCell ⟨n, 5, none⟩ (.int .i64 a)) (some n) := grown_trans (grown_setCell1 _ _ _ _) (grown_setCell1 _ _ _ _)
  have g2 : w.grownBy ((U.setCell ⟨n, 4, none⟩ (.bool true)).setCell ⟨n, 5, none⟩ (.int .i64 a)) (some b) := ⟨g1.os.trans h.os, g1.tape.trans h.tape, g1.output.trans h.output, Nat.le_trans h.size g1.size, fun j hj hne => (g1.block j (Nat.lt_of_lt_of_le hj h.size) (fun e => by have := Option.some.inj e; omega)).trans (h.block j hj hne)⟩
  exact grown_drew (grown_trans (grown_trans (grown_trans (grown_trans (grown_trans (grown_trans g2 (grown_setCell1 _ _ _ _)) (grown_setCell1 _ _ _ _)) (grown_setCell1 _ _ _ _)) (grown_setCell1 _ _ _ _)) (grown_setCell1 _ _ _ _)) (grown_setCell1 _ _ _ _))
theorem acc5 {T : Nat → Gr} {i o a : Int} (h : (getG T i).is = false ∨ (getG T i).dst ≠ o) : accE T i o a = 5 ∧ accT T i o a = T := by
  have e : accE T i o a = 5 := by unfold accE; rw [if_pos h]
  exact ⟨e, by unfold accT; rw [e]; rfl⟩
theorem acc11 {T : Nat → Gr} {i o a : Int} (h1 : (getG T i).is = true) (h2 : (getG T i).dst = o) (h3 : (getG T i).tk = true) : accE T i o a = 11 ∧ accT T i o a = T := by
  have e : accE T i o a = 11 := by unfold accE; rw [if_neg (by rw [h1, h2]; simp), if_pos h3]
  exact ⟨e, by unfold accT; rw [e]; rfl⟩
theorem acc1 {T : Nat → Gr} {i o a : Int} (h1 : (getG T i).is = true) (h2 : (getG T i).dst = o) (h3 : (getG T i).tk = false) (h4 : isPage a = false) : accE T i o a = 1 ∧ accT T i o a = T := by
  have e : accE T i o a = 1 := by unfold accE; rw [if_neg (by rw [h1, h2]; simp), if_neg (by rw [h3]; simp), if_pos h4]
  exact ⟨e, by unfold accT; rw [e]; rfl⟩
theorem acc0 {T : Nat → Gr} {i o a : Int} (h1 : (getG T i).is = true) (h2 : (getG T i).dst = o) (h3 : (getG T i).tk = false) (h4 : isPage a = true) : accE T i o a = 0 ∧ accT T i o a = putT T i.toNat ((T i.toNat).take a) := by
  have e : accE T i o a = 0 := by unfold accE; rw [if_neg (by rw [h1, h2]; simp), if_neg (by rw [h3]; simp), if_neg (by rw [h4]; simp)]
  exact ⟨e, by unfold accT; rw [e]; rfl⟩
theorem lea5 {T : Nat → Gr} {i o : Int} (h : (getG T i).is = false ∨ (getG T i).dst ≠ o ∨ (getG T i).tk = false) : leaE T i o = 5 ∧ leaG T i o = Gr.zero ∧ leaT T i o = T := by
  have e : leaE T i o = 5 := by unfold leaE; rw [if_pos h]
  exact ⟨e, by unfold leaG; rw [e]; rfl, by unfold leaT; rw [e]; rfl⟩
theorem lea0 {T : Nat → Gr} {i o : Int} (h1 : (getG T i).is = true) (h2 : (getG T i).dst = o) (h3 : (getG T i).tk = true) : leaE T i o = 0 ∧ leaG T i o = getG T i ∧ leaT T i o = putT T i.toNat ((T i.toNat).leave) := by
  have e : leaE T i o = 0 := by unfold leaE; rw [if_neg (by rw [h1, h2, h3]; simp)]
  exact ⟨e, by unfold leaG; rw [e]; rfl, by unfold leaT; rw [e]; rfl⟩
theorem rev5 {T : Nat → Gr} {i o : Int} (h : (getG T i).is = false ∨ (getG T i).fr ≠ o) : revE T i o = 5 ∧ revG T i o = Gr.zero ∧ revT T i o = T := by
  have e : revE T i o = 5 := by unfold revE; rw [if_pos h]
  exact ⟨e, by unfold revG; rw [e]; rfl, by unfold revT; rw [e]; rfl⟩
theorem rev0 {T : Nat → Gr} {i o : Int} (h1 : (getG T i).is = true) (h2 : (getG T i).fr = o) : revE T i o = 0 ∧ revG T i o = getG T i ∧ revT T i o = putT T i.toNat Gr.zero := by
  have e : revE T i o = 0 := by unfold revE; rw [if_neg (by rw [h1, h2]; simp)]
  exact ⟨e, by unfold revG; rw [e]; rfl, by unfold revT; rw [e]; rfl⟩
theorem IsTab.left {w : World} {b : Nat} {T : Nat → Gr} {k : Nat} {l : Gr} (h : IsTab w b T) (hk : k < 256) (hl : T k = l) : IsTab ((w.setCell ⟨b, k * 6 + 4, none⟩ (.bool false)).setCell ⟨b, k * 6 + 5, none⟩ (.int .i64 0)) b (putT T k l.leave) := by
  have h1 := h.one k hk 4 (.bool false) ⟨l.fr, l.pg, l.dst, l.wr, false, l.att⟩ (by rw [hl]; rfl) (by omega) _ rfl
  have h2 := h1.one k hk 5 (.int .i64 0) l.leave (by rw [put_same]; rfl) (by omega) _ rfl
  rwa [put_put] at h2
theorem IsTab.left' {w : World} {b : Nat} {T : Nat → Gr} {k : Nat} {l : Gr} (h : IsTab w b T) (hk : k < 256) (hl : T k = l) : IsTab ((w.setCell ⟨b, k * 6 + 5, none⟩ (.int .i64 0)).setCell ⟨b, k * 6 + 4, none⟩ (.bool false)) b (putT T k l.leave) := by
  have h1 := h.one k hk 5 (.int .i64 0) ⟨l.fr, l.pg, l.dst, l.wr, l.tk, 0⟩ (by rw [hl]; rfl) (by omega) _ rfl
  have h2 := h1.one k hk 4 (.bool false) l.leave (by rw [put_same]; rfl) (by omega) _ rfl
  rwa [put_put] at h2
end Go.Proofs.Ytenfdcjnfgjilaa
