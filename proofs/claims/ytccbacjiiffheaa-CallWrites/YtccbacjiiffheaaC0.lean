/- Words of a call: the reader in memory; word, insist, below, number. -/
import Derived.Test.YtccbacjiiffheaaH0
import Derived.BigQuiet
import Derived.Deep.QuietTactic
namespace Go.Proofs.Ytccbacjiiffheaa
open Go.ChangeShapes Go.WideShapes Go.ChangeAt Go.RowKit Go.Maps
set_option linter.unusedSimpArgs false
set_option linter.unusedVariables false

/-- six words -/
structure Wd where
  x0 : Int
  x1 : Int
  x2 : Int
  x3 : Int
  x4 : Int
  x5 : Int
abbrev Wd.val (W : Wd) : Value := .agg #[.int .u64 W.x0, .int .u64 W.x1, .int .u64 W.x2, .int .u64 W.x3, .int .u64 W.x4, .int .u64 W.x5]
def Wd.list (W : Wd) : List Int := [W.x0, W.x1, W.x2, W.x3, W.x4, W.x5]
def Wd.at (W : Wd) (k : Nat) : Int := W.list[k]?.getD 0
/-- each is a word -/
def Wd.wf (W : Wd) : Prop := ∀ k, 0 ≤ W.at k ∧ W.at k < 18446744073709551616
/-- the block is a reader of these words, of which k were read -/
def IsR (w : World) (b : Nat) (W : Wd) (k : Nat) : Prop := w.heap[b]? = some (.cells #[.int .u64 W.x0, .int .u64 W.x1, .int .u64 W.x2, .int .u64 W.x3, .int .u64 W.x4, .int .u64 W.x5, .int .i64 (k : Int)] 64 (0, 0))
theorem IsR.cell {w : World} {b : Nat} {W : Wd} {k : Nat} (h : IsR w b W k) (i : Nat) (hi : i < 6) : w.cell? ⟨b, i, none⟩ = some (.int .u64 (W.at i)) := by
  rw [Go.Joins.cell_of_block h i]
  match i, hi with
  | 0, _ => rfl
  | 1, _ => rfl
  | 2, _ => rfl
  | 3, _ => rfl
  | 4, _ => rfl
  | 5, _ => rfl
theorem IsR.next {w : World} {b : Nat} {W : Wd} {k : Nat} (h : IsR w b W k) : w.cell? ⟨b, 6, none⟩ = some (.int .i64 (k : Int)) := Go.Joins.cell_of_block h 6
theorem IsR.free {w : World} {b : Nat} {W : Wd} {k : Nat} (h : IsR w b W k) (i : Nat) : w.frozen? ⟨b, i, none⟩ = false := Go.Joins.unfrozen_of_block h i
theorem IsR.put {w : World} {b : Nat} {W : Wd} {k : Nat} (h : IsR w b W k) : IsR (w.setCell ⟨b, 6, none⟩ (.int .i64 ((k : Int) + 1))) b W (k + 1) := by
  unfold IsR
  rw [Go.Joins.block_setCell h]
  rfl
theorem IsR.kept {w w' : World} {b : Nat} {W : Wd} {k : Nat} (h : IsR w b W k) (hb : b < w.heap.size → w'.heap[b]? = w.heap[b]?) : IsR w' b W k := (hb (blk_lt h)).trans h
theorem IsR.below {w w' : World} {b : Nat} {W : Wd} {k : Nat} (h : IsR w b W k) (hb : Below w.heap.size w w') : IsR w' b W k := h.kept (fun l => hb.block b l)
theorem kb_drewN (x : Nat) (w : World) (n : Nat) : Kb x w (w.drewN n) := ⟨rfl, rfl, rfl, Nat.le_refl _, fun _ _ _ => rfl⟩
theorem kb_alloc (x : Nat) (w : World) (o : Obj) : Kb x w (w.alloc o) := Kb.below (Go.Joins.below_alloc1 _ _)
theorem results_one {fn : Func} {p : Tmp} {t : TypeId} (h : fn.results = #[.cell p t]) (tmps : Array Value) (P : Program) (w : World) (a : Addr) (x : Value)
    (ha : tmps.getD p undef = .pointer (some a)) (hx : (loadVar t a).run P w = .ok x w) : (results fn tmps).run P w = .ok x w := by
  simp only [results, h]
  have e1 : ∀ W : World, (asAddr (Value.pointer (some a))).run P W = .ok a W := fun _ => rfl
  simp at ha
  simp [Sem.run_bind, Result.andThen, ha, e1, hx]
theorem results_pair {fn : Func} {p q : Tmp} {t : TypeId} (h : fn.results = #[.cell p t, .tmp q]) (tmps : Array Value) (P : Program) (w : World) (a : Addr) (x y : Value)
    (ha : tmps.getD p undef = .pointer (some a)) (hb : tmps.getD q undef = y) (hx : (loadVar t a).run P w = .ok x w) :
    (results fn tmps).run P w = .ok (.tuple #[x, y]) w := by
  simp only [results, h]
  have e1 : ∀ W : World, (asAddr (Value.pointer (some a))).run P W = .ok a W := fun _ => rfl
  simp at ha hb
  simp [Sem.run_bind, Result.andThen, ha, hb, e1, hx]
/-- a block's cells -/
abbrev Blk (w : World) (b : Nat) (C : List Value) (t : TypeId) : Prop := w.heap[b]? = some (.cells C.toArray t (0, 0))
theorem Blk.cell {w : World} {b : Nat} {C : List Value} {t : TypeId} (h : Blk w b C t) (i : Nat) : w.cell? ⟨b, i, none⟩ = C[i]? := by rw [Go.Joins.cell_of_block h i]; simp
theorem Blk.free {w : World} {b : Nat} {C : List Value} {t : TypeId} (h : Blk w b C t) (i : Nat) : w.frozen? ⟨b, i, none⟩ = false := Go.Joins.unfrozen_of_block h i
theorem Blk.kb {w w' : World} {b x : Nat} {C : List Value} {t : TypeId} (h : Blk w b C t) (k : Kb x w w') (ne : b ≠ x) : Blk w' b C t := (k.block b (blk_lt h) ne).trans h
theorem Blk.below {w w' : World} {b : Nat} {C : List Value} {t : TypeId} (h : Blk w b C t) (k : Below w.heap.size w w') : Blk w' b C t := (k.block b (blk_lt h)).trans h
theorem Blk.made (w : World) (C : List Value) (t : TypeId) : Blk (w.alloc (.cells C.toArray t)) w.heap.size C t := own1 w _
theorem Blk.set {w : World} {b : Nat} {C : List Value} {t : TypeId} (h : Blk w b C t) (i : Nat) (v : Value) : Blk (w.setCell ⟨b, i, none⟩ v) b (C.set i v) t := by
  unfold Blk
  rw [Go.Joins.block_setCell h]; simp
theorem Blk.far {w : World} {b c : Nat} {C : List Value} {t : TypeId} (h : Blk w b C t) (o : Nat) (v : Value) (ne : b ≠ c) : Blk (w.setCell ⟨c, o, none⟩ v) b C t := h.kb (Kb.set w c o v) ne
theorem Blk.there {w : World} {b : Nat} {C : List Value} {t : TypeId} (h : Blk w b C t) : w.there b 0 C.length := fun j hj => by
  rw [Nat.zero_add]
  exact ⟨by rw [h.cell j, List.getElem?_eq_getElem hj]; rfl, h.free j⟩
theorem Blk.range {w : World} {b : Nat} {C : List Value} {t : TypeId} (h : Blk w b C t) : w.rangeAt b 0 C := fun j v hv => by rw [Nat.zero_add, h.cell j]; exact hv
theorem store_pat {P : Program} {ops : Array Oper} {rest : List Oper} {ty t : TypeId} {x y : Operand} {pos : String} {af : Array Edge} {a : Act} {w : World} {Q : Exit → Act → World → Prop} (b o : Nat) (cells : Array Value) (hx : a.eval x = .pointer (some ⟨b, o, none⟩)) (hy : a.eval y = .agg cells)
    (ht : w.there b o cells.size) (hi : (P.info? ty).map (·.size) = some cells.size) (h1 : cells.all (·.oneCell') = true)
    (h : wpList P ops Q rest a (w.setCells b o cells.toList)) : wpList P ops Q ({ dst := none, op := .store ty x y, type := t, pos := pos, after := af, guard := none } :: rest) a w :=
  wpList_store_mid rfl ty x y rfl b o cells hx hy ht hi h1 h
theorem load_pat {P : Program} {ops : Array Oper} {rest : List Oper} {ty t : TypeId} {x : Operand} {q : Tmp} {pos : String} {af : Array Edge} {a : Act} {w : World} {Q : Exit → Act → World → Prop} (b o : Nat) (cs : List Value) (d : TypeDesc) (hx : a.eval x = .pointer (some ⟨b, o, none⟩)) (hc : w.rangeAt b o cs)
    (hu : P.underlying ty = some d) (hd : d.isRow = true) (hi : (P.info? ty).map (·.size) = some cs.length)
    (h : wpList P ops Q rest (a.put (some q) (.agg cs.toArray)) w) : wpList P ops Q ({ dst := some q, op := .load ty x, type := t, pos := pos, after := af, guard := none } :: rest) a w :=
  wpList_load_mid rfl ty x rfl b o hx cs d hc hu hd hi h
theorem Blk.scs {w : World} {b c : Nat} {C : List Value} {t : TypeId} (h : Blk w b C t) (ne : b ≠ c) : ∀ (vs : List Value) (o : Nat), Blk (w.setCells c o vs) b C t := fun vs => by
  induction vs generalizing w with
  | nil => intro o; exact h
  | cons v r ih => intro o; rw [World.setCells]; exact ih (h.far o v ne) _
theorem kb_scs {x c : Nat} {w X : World} (h : Kb x w X) (l : w.heap.size ≤ c) : ∀ (vs : List Value) (o : Nat), Kb x w (X.setCells c o vs) := fun vs => by
  induction vs generalizing X with
  | nil => intro o; exact h
  | cons v r ih =>
    intro o
    rw [World.setCells]
    have k := Kb.set X c o v
    exact ih ⟨k.os.trans h.os, k.tape.trans h.tape, k.output.trans h.output, Nat.le_trans h.size k.size, fun j hj hne => (k.block j (Nat.lt_of_lt_of_le hj h.size) (by omega)).trans (h.block j hj hne)⟩ _
theorem kb_set {x c : Nat} {w X : World} (h : Kb x w X) (l : w.heap.size ≤ c) (o : Nat) (v : Value) : Kb x w (X.setCell ⟨c, o, none⟩ v) := kb_scs h l [v] o
theorem IsR.blk {w : World} {b : Nat} {W : Wd} {k : Nat} (h : IsR w b W k) : Blk w b [.int .u64 W.x0, .int .u64 W.x1, .int .u64 W.x2, .int .u64 W.x3, .int .u64 W.x4, .int .u64 W.x5, .int .i64 (k : Int)] 64 := h
theorem IsR.scs {w : World} {b c : Nat} {W : Wd} {k : Nat} (h : IsR w b W k) (ne : b ≠ c) (vs : List Value) (o : Nat) : IsR (w.setCells c o vs) b W k := h.blk.scs ne vs o
/-- what the reading ends by -/
def refv : PanicEntry := { v := .iface 60 (.agg #[.int .i64 13]), recovered := false }
set_option maxHeartbeats 400000 in
theorem insist_yes (w : World) : Calls Try.prog 38 #[.bool true] w fun e w' => e = .returned (.tuple #[]) ∧ w' = w := by
  go_enter Try.func38, Try.ntmps38
  go_wp2_with fail
  go_returns
  exact ⟨rfl, rfl⟩
set_option maxHeartbeats 400000 in
theorem insist_no (w : World) : Calls Try.prog 38 #[.bool false] w fun e w' => e = .panicked [refv] ∧ w' = w := by
  go_enter Try.func38, Try.ntmps38
  go_wp2
  exact ⟨rfl, rfl, rfl⟩
set_option maxHeartbeats 1000000 in
theorem word_any (b : Nat) (W : Wd) (k : Nat) (hk : k < 6) (w : World) (h : IsR w b W k) : Calls Try.prog 37 #[.pointer (some ⟨b, 0, none⟩)] w fun e w' => e = .returned (.int .u64 (W.at k)) ∧ IsR w' b W (k + 1) ∧ Kb b w w' := by
  have H : Hid (IsR w b W k) := h
  have lt0 := blk_lt h
  have c6 := h.next
  have ck := h.cell k hk
  have f6 : w.frozen? ⟨b, 6, none⟩ = false := h.free _
  clear h
  generalize W.at k = x at *
  have d1 : decide ((k : Int) < 6) = true := by simp; omega
  have d0 : decide ((k : Int) < 0) = false := by simp
  go_enter Try.func37, Try.ntmps37
  go_wp2_with fail
  go_quiet (fail)
  go_wp2_with fail
  go_returns
  exact ⟨rfl, (H.out.kept (fun _ => rfl)).put, (kb_drewN b w _).trans (Kb.set _ _ _ _)⟩
set_option maxHeartbeats 1000000 in
theorem below_yes (b : Nat) (W : Wd) (k : Nat) (hk : k < 6) (lim : Int) (hl : W.at k < lim) (w : World) (h : IsR w b W k) : Calls Try.prog 36 #[.pointer (some ⟨b, 0, none⟩), .int .u64 lim] w fun e w' => e = .returned (.int .u64 (W.at k)) ∧ IsR w' b W (k + 1) ∧ Kb b w w' := by
  have WW : Hid (Calls Try.prog 37 #[.pointer (some ⟨b, 0, none⟩)] w fun e w' => e = .returned (.int .u64 (W.at k)) ∧ IsR w' b W (k + 1) ∧ Kb b w w') := word_any b W k hk w h
  have IY : Hid (∀ w : World, Calls Try.prog 38 #[.bool true] w fun e w' => e = .returned (.tuple #[]) ∧ w' = w) := insist_yes
  clear h
  generalize W.at k = x at *
  have d1 : decide (x < lim) = true := by simp; omega
  go_enter Try.func36, Try.ntmps36
  go_wp2_with fail
  refine WW.out.mono ?_
  rintro e u ⟨rfl, h1, k1⟩
  have H1 : Hid (IsR u b W (k + 1)) := h1
  have K1 : Hid (Kb b w u) := k1
  clear h1 k1
  go_wp2_with fail
  refine (IY.out _).mono ?_
  rintro e u2 ⟨rfl, hu⟩
  subst hu
  go_wp2_with fail
  go_returns
  exact ⟨rfl, H1.out, K1.out⟩
set_option maxHeartbeats 1000000 in
theorem below_no (b : Nat) (W : Wd) (k : Nat) (hk : k < 6) (lim : Int) (hl : ¬ W.at k < lim) (w : World) (h : IsR w b W k) : Calls Try.prog 36 #[.pointer (some ⟨b, 0, none⟩), .int .u64 lim] w fun e w' => e = .panicked [refv] ∧ Kb b w w' := by
  have WW : Hid (Calls Try.prog 37 #[.pointer (some ⟨b, 0, none⟩)] w fun e w' => e = .returned (.int .u64 (W.at k)) ∧ IsR w' b W (k + 1) ∧ Kb b w w') := word_any b W k hk w h
  have IY : Hid (∀ w : World, Calls Try.prog 38 #[.bool false] w fun e w' => e = .panicked [refv] ∧ w' = w) := insist_no
  clear h
  generalize W.at k = x at *
  have d1 : decide (x < lim) = false := by simp; omega
  go_enter Try.func36, Try.ntmps36
  go_wp2_with fail
  refine WW.out.mono ?_
  rintro e u ⟨rfl, h1, k1⟩
  have K1 : Hid (Kb b w u) := k1
  clear h1 k1
  go_wp2_with fail
  refine (IY.out _).mono ?_
  rintro e u2 ⟨rfl, hu⟩
  subst hu
  exact ⟨rfl, rfl, K1.out⟩
set_option maxHeartbeats 1000000 in
theorem number_yes (b : Nat) (W : Wd) (k : Nat) (hk : k < 6) (hw : W.wf) (lim : Int) (h63 : lim ≤ 9223372036854775807) (hl : W.at k < lim) (w : World) (h : IsR w b W k) : Calls Try.prog 30 #[.pointer (some ⟨b, 0, none⟩), .int .u64 lim] w fun e w' => e = .returned (.int .i64 (W.at k)) ∧ IsR w' b W (k + 1) ∧ Kb b w w' := by
  have BB : Hid (Calls Try.prog 36 #[.pointer (some ⟨b, 0, none⟩), .int .u64 lim] w fun e w' => e = .returned (.int .u64 (W.at k)) ∧ IsR w' b W (k + 1) ∧ Kb b w w') := below_yes b W k hk lim hl w h
  have p0 := (hw k).1
  clear h hw
  generalize W.at k = x at *
  have ww : IntKind.i64.wrap x = x := by rw [IntKind.wrap_i64]; omega
  go_enter Try.func30, Try.ntmps30
  go_wp2_with fail
  refine BB.out.mono ?_
  rintro e u ⟨rfl, h1, k1⟩
  have H1 : Hid (IsR u b W (k + 1)) := h1
  have K1 : Hid (Kb b w u) := k1
  clear h1 k1
  go_wp2_with fail
  go_returns
  exact ⟨rfl, H1.out, K1.out⟩
set_option maxHeartbeats 1000000 in
theorem number_no (b : Nat) (W : Wd) (k : Nat) (hk : k < 6) (lim : Int) (hl : ¬ W.at k < lim) (w : World) (h : IsR w b W k) : Calls Try.prog 30 #[.pointer (some ⟨b, 0, none⟩), .int .u64 lim] w fun e w' => e = .panicked [refv] ∧ Kb b w w' := by
  have BB : Hid (Calls Try.prog 36 #[.pointer (some ⟨b, 0, none⟩), .int .u64 lim] w fun e w' => e = .panicked [refv] ∧ Kb b w w') := below_no b W k hk lim hl w h
  clear h
  go_enter Try.func30, Try.ntmps30
  go_wp2_with fail
  refine BB.out.mono ?_
  rintro e u ⟨rfl, k1⟩
  exact ⟨rfl, rfl, k1⟩
end Go.Proofs.Ytccbacjiiffheaa
