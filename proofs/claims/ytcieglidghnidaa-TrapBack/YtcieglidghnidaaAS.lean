/- What each call does to a state, as plain functions; the program's and the document's calls do just that. -/
import Derived.Test.YtcieglidghnidaaA5
import Derived.Test.YtcieglidghnidaaA6
import Derived.Test.YtcieglidghnidaaAR
namespace Go.Proofs.Ytcieglidghnidaa
open Go.ChangeShapes Go.WideShapes Go.ChangeAt Go.RowKit Go.Maps
set_option linter.unusedSimpArgs false
set_option linter.unusedVariables false

theorem wfu {x : Int} (h : (Lit.int .u64 x).wf = true) : 0 ≤ x ∧ x < 18446744073709551616 := by simp [Lit.wf, IntKind.min, IntKind.max, IntKind.signed, IntKind.bits] at h; omega
theorem wfi {x : Int} (h : (Lit.int .i64 x).wf = true) : -9223372036854775808 ≤ x ∧ x ≤ 9223372036854775807 := by simp [Lit.wf, IntKind.min, IntKind.max, IntKind.signed, IntKind.bits] at h; omega
theorem tells_bd (op : Int) (a b : Nat) : 0 ≤ FltM.doT op a b ∧ FltM.doT op a b < 8 := by
  unfold FltM.doT FltM.tells
  repeat' split
  all_goals omega
abbrev U (x : Int) : Prop := 0 ≤ x ∧ x < 18446744073709551616
/-- the numbers of a state are words -/
structure St.wf (s : St) : Prop where
  r0 : U s.r0
  r1 : U s.r1
  r2 : U s.r2
  r3 : U s.r3
  told : -9223372036854775808 ≤ s.told ∧ s.told ≤ 9223372036854775807
  s0 : U s.s0
  s1 : U s.s1
  s2 : U s.s2
  s3 : U s.s3
def St.reg (s : St) (k : Nat) : Int := [s.r0, s.r1, s.r2, s.r3][k]?.getD 0
def St.put (s : St) (k : Nat) (x : Int) : St := if k = 0 then { s with r0 := x } else if k = 1 then { s with r1 := x } else if k = 2 then { s with r2 := x } else { s with r3 := x }
theorem St.wf.reg {s : St} (h : s.wf) (k : Nat) (hk : k < 4) : [s.r0, s.r1, s.r2, s.r3][k]? = some (s.reg k) ∧ U (s.reg k) := by
  match k, hk with
  | 0, _ => exact ⟨rfl, h.r0⟩
  | 1, _ => exact ⟨rfl, h.r1⟩
  | 2, _ => exact ⟨rfl, h.r2⟩
  | 3, _ => exact ⟨rfl, h.r3⟩
theorem St.wf.put {s : St} (h : s.wf) (k : Nat) (x : Int) (hx : U x) : (s.put k x).wf := by
  unfold St.put
  split
  · exact { h with r0 := hx }
  split
  · exact { h with r1 := hx }
  split
  · exact { h with r2 := hx }
  · exact { h with r3 := hx }
theorem wrap_u (x : Int) : U (IntKind.u64.wrap x) := by rw [IntKind.wrap_u64]; exact ⟨Int.emod_nonneg _ (by omega), Int.emod_lt_of_pos _ (by omega)⟩
theorem or_bd (a b : Int) : -9223372036854775808 ≤ bits .or .i64 a b ∧ bits .or .i64 a b ≤ 9223372036854775807 := by
  rw [bor]
  have h1 := BitVec.le_toInt (BitVec.ofInt 64 a ||| BitVec.ofInt 64 b)
  have h2 := BitVec.toInt_lt (x := BitVec.ofInt 64 a ||| BitVec.ofInt 64 b)
  omega
def raiseS (s : St) (fa fc : Int) : St := if s.en = 0 then s else if s.inn = true then s else ⟨fa, IntKind.u64.wrap fc, 0, 0, s.told, s.en, true, fa, fc, s.r0, s.r1, s.r2, s.r3⟩
def raiseE (s : St) : Int := if s.en = 0 then 5 else if s.inn = true then 11 else 0
def returnS (s : St) : St := if s.inn = true then ⟨s.s0, s.s1, s.s2, s.s3, s.told, s.en, false, 0, 0, 0, 0, 0, 0⟩ else s
def returnE (s : St) : Int := if s.inn = true then 0 else 5
def handleS (s : St) (x : Int) : St := if s.inn = true then s else { s with en := x }
def handleE (s : St) : Int := if s.inn = true then 11 else 0
def moveS (s : St) (k x : Int) : St := if 0 ≤ k ∧ k < 4 then s.put k.toNat x else s
def moveE (k : Int) : Int := if 0 ≤ k ∧ k < 4 then 0 else 1
abbrev Regs3 (x y z : Int) : Prop := (0 ≤ x ∧ x < 4) ∧ (0 ≤ y ∧ y < 4) ∧ (0 ≤ z ∧ z < 4)
def reckonS (s : St) (op x y z : Int) : St := if Regs3 x y z then (if FltM.doE op = 0 then { s.put z.toNat (FltM.doR op (s.reg x.toNat).toNat (s.reg y.toNat).toNat : Nat) with told := bits .or .i64 s.told (FltM.doT op (s.reg x.toNat).toNat (s.reg y.toNat).toNat) } else s) else s
def reckonE (op x y z : Int) : Int := if Regs3 x y z then FltM.doE op else 1
theorem raise_all (s : St) (fa fc : Int) (w : World) : Calls Try.prog 10 #[s.val, .agg #[.int .u64 fa, .int .i64 fc]] w fun e w' => e = .returned (.tuple #[(raiseS s fa fc).val, .int .i64 (raiseE s)]) ∧ Below w.heap.size w w' := by
  obtain ⟨r0, r1, r2, r3, t, en, i, a, c, s0, s1, s2, s3⟩ := s
  unfold raiseS raiseE
  by_cases h : en = 0
  · subst h
    simp only [if_pos]
    exact raise_none r0 r1 r2 r3 t i a c s0 s1 s2 s3 fa fc w
  · simp only [if_neg h]
    cases i with
    | true => simp only [if_pos]; exact raise_busy r0 r1 r2 r3 t en a c s0 s1 s2 s3 fa fc h w
    | false => simp only [Bool.false_eq_true, if_false]; exact raise_ok r0 r1 r2 r3 t en a c s0 s1 s2 s3 fa fc _ h rfl w
theorem rraise_all (s : St) (fa fc : Int) (w : World) : Calls Try.prog 16 #[s.val, .agg #[.int .u64 fa, .int .i64 fc]] w fun e w' => e = .returned (.tuple #[(raiseS s fa fc).val, .int .i64 (raiseE s)]) ∧ Below w.heap.size w w' := by
  obtain ⟨r0, r1, r2, r3, t, en, i, a, c, s0, s1, s2, s3⟩ := s
  unfold raiseS raiseE
  by_cases h : en = 0
  · subst h
    simp only [if_pos]
    exact rraise_none r0 r1 r2 r3 t i a c s0 s1 s2 s3 fa fc w
  · simp only [if_neg h]
    cases i with
    | true => simp only [if_pos]; exact rraise_busy r0 r1 r2 r3 t en a c s0 s1 s2 s3 fa fc h w
    | false => simp only [Bool.false_eq_true, if_false]; exact rraise_ok r0 r1 r2 r3 t en a c s0 s1 s2 s3 fa fc _ h rfl w
theorem return_all (s : St)  (w : World) : Calls Try.prog 11 #[s.val] w fun e w' => e = .returned (.tuple #[(returnS s).val, .int .i64 (returnE s)]) ∧ Below w.heap.size w w' := by
  obtain ⟨r0, r1, r2, r3, t, en, i, a, c, s0, s1, s2, s3⟩ := s
  unfold returnS returnE
  cases i with
  | true => simp only [if_pos]; exact return_ok r0 r1 r2 r3 t en a c s0 s1 s2 s3 w
  | false => simp only [Bool.false_eq_true, if_false]; exact return_none r0 r1 r2 r3 t en a c s0 s1 s2 s3 w
theorem rreturn_all (s : St)  (w : World) : Calls Try.prog 17 #[s.val] w fun e w' => e = .returned (.tuple #[(returnS s).val, .int .i64 (returnE s)]) ∧ Below w.heap.size w w' := by
  obtain ⟨r0, r1, r2, r3, t, en, i, a, c, s0, s1, s2, s3⟩ := s
  unfold returnS returnE
  cases i with
  | true => simp only [if_pos]; exact rreturn_ok r0 r1 r2 r3 t en a c s0 s1 s2 s3 w
  | false => simp only [Bool.false_eq_true, if_false]; exact rreturn_none r0 r1 r2 r3 t en a c s0 s1 s2 s3 w
theorem handle_all (s : St) (x : Int) (w : World) : Calls Try.prog 15 #[s.val, .int .u64 x] w fun e w' => e = .returned (.tuple #[(handleS s x).val, .int .i64 (handleE s)]) ∧ Below w.heap.size w w' := by
  obtain ⟨r0, r1, r2, r3, t, en, i, a, c, s0, s1, s2, s3⟩ := s
  unfold handleS handleE
  cases i with
  | true => simp only [if_pos]; exact handle_busy r0 r1 r2 r3 t en a c s0 s1 s2 s3 x w
  | false => simp only [Bool.false_eq_true, if_false]; exact handle_ok r0 r1 r2 r3 t en a c s0 s1 s2 s3 x w
theorem rhandle_all (s : St) (x : Int) (w : World) : Calls Try.prog 18 #[s.val, .int .u64 x] w fun e w' => e = .returned (.tuple #[(handleS s x).val, .int .i64 (handleE s)]) ∧ Below w.heap.size w w' := by
  obtain ⟨r0, r1, r2, r3, t, en, i, a, c, s0, s1, s2, s3⟩ := s
  unfold handleS handleE
  cases i with
  | true => simp only [if_pos]; exact rhandle_busy r0 r1 r2 r3 t en a c s0 s1 s2 s3 x w
  | false => simp only [Bool.false_eq_true, if_false]; exact rhandle_ok r0 r1 r2 r3 t en a c s0 s1 s2 s3 x w
theorem move_all (s : St) (k x : Int) (w : World) : Calls Try.prog 14 #[s.val, .int .i64 k, .int .u64 x] w fun e w' => e = .returned (.tuple #[(moveS s k x).val, .int .i64 (moveE k)]) ∧ Below w.heap.size w w' := by
  obtain ⟨r0, r1, r2, r3, t, en, i, a, c, s0, s1, s2, s3⟩ := s
  unfold moveS moveE
  by_cases h : 0 ≤ k ∧ k < 4
  · simp only [if_pos h]
    rcases (show k = 0 ∨ k = 1 ∨ k = 2 ∨ k = 3 by omega) with rfl | rfl | rfl | rfl
    · exact move_0 r0 r1 r2 r3 t en i a c s0 s1 s2 s3 x w
    · exact move_1 r0 r1 r2 r3 t en i a c s0 s1 s2 s3 x w
    · exact move_2 r0 r1 r2 r3 t en i a c s0 s1 s2 s3 x w
    · exact move_3 r0 r1 r2 r3 t en i a c s0 s1 s2 s3 x w
  · simp only [if_neg h]
    exact move_no r0 r1 r2 r3 t en i a c s0 s1 s2 s3 k h x w
theorem rmove_all (s : St) (k x : Int) (w : World) : Calls Try.prog 19 #[s.val, .int .i64 k, .int .u64 x] w fun e w' => e = .returned (.tuple #[(moveS s k x).val, .int .i64 (moveE k)]) ∧ Below w.heap.size w w' := by
  obtain ⟨r0, r1, r2, r3, t, en, i, a, c, s0, s1, s2, s3⟩ := s
  unfold moveS moveE
  by_cases h : 0 ≤ k ∧ k < 4
  · simp only [if_pos h]
    rcases (show k = 0 ∨ k = 1 ∨ k = 2 ∨ k = 3 by omega) with rfl | rfl | rfl | rfl
    · exact rmove_0 r0 r1 r2 r3 t en i a c s0 s1 s2 s3 x w
    · exact rmove_1 r0 r1 r2 r3 t en i a c s0 s1 s2 s3 x w
    · exact rmove_2 r0 r1 r2 r3 t en i a c s0 s1 s2 s3 x w
    · exact rmove_3 r0 r1 r2 r3 t en i a c s0 s1 s2 s3 x w
  · simp only [if_neg h]
    exact rmove_no r0 r1 r2 r3 t en i a c s0 s1 s2 s3 k h x w
theorem reckon_all (s : St) (op x y z : Int) (hs : s.wf) (w : World) : Calls Try.prog 12 #[s.val, .int .i64 op, .int .i64 x, .int .i64 y, .int .i64 z] w fun e w' => e = .returned (.tuple #[(reckonS s op x y z).val, .int .i64 (reckonE op x y z)]) ∧ Below w.heap.size w w' := by
  unfold reckonS reckonE
  by_cases h : Regs3 x y z
  rotate_left
  · simp only [if_neg h]
    obtain ⟨r0, r1, r2, r3, t, en, i, a, c, s0, s1, s2, s3⟩ := s
    exact reckon_no r0 r1 r2 r3 t en i a c s0 s1 s2 s3 op x y z h w
  simp only [if_pos h]
  obtain ⟨hx, hy, hz⟩ := h
  obtain ⟨ka, rfl⟩ : ∃ k : Nat, x = k := ⟨x.toNat, by omega⟩
  obtain ⟨kb, rfl⟩ : ∃ k : Nat, y = k := ⟨y.toNat, by omega⟩
  simp only [Int.toNat_natCast]
  obtain ⟨ea, pa, qa⟩ := hs.reg ka (by omega)
  obtain ⟨eb, pb, qb⟩ := hs.reg kb (by omega)
  have DO : ∀ W : World, Calls Try.prog 13 #[.int .i64 op, .int .u64 (s.reg ka), .int .u64 (s.reg kb)] W fun e w' => e = .returned (.tuple #[.int .u64 (FltM.doR op (s.reg ka).toNat (s.reg kb).toNat : Nat), .int .i64 (FltM.doT op (s.reg ka).toNat (s.reg kb).toNat), .int .i64 (FltM.doE op)]) ∧ ∃ n, w' = W.drewN n := fun W => do_any op _ _ pa qa pb qb W
  by_cases hE : FltM.doE op = 0
  · rw [if_pos hE]
    rw [hE] at DO ⊢
    generalize s.reg ka = ra at *
    generalize s.reg kb = rb at *
    obtain ⟨r0, r1, r2, r3, t, en, i, a, c, s0, s1, s2, s3⟩ := s
    simp only at ea eb
    have tb := hs.told
    rcases (show z = 0 ∨ z = 1 ∨ z = 2 ∨ z = 3 by omega) with rfl | rfl | rfl | rfl
    · exact reckon_0 r0 r1 r2 r3 t en i a c s0 s1 s2 s3 op ka kb (by omega) (by omega) ra rb ea eb _ _ _ rfl DO w
    · exact reckon_1 r0 r1 r2 r3 t en i a c s0 s1 s2 s3 op ka kb (by omega) (by omega) ra rb ea eb _ _ _ rfl DO w
    · exact reckon_2 r0 r1 r2 r3 t en i a c s0 s1 s2 s3 op ka kb (by omega) (by omega) ra rb ea eb _ _ _ rfl DO w
    · exact reckon_3 r0 r1 r2 r3 t en i a c s0 s1 s2 s3 op ka kb (by omega) (by omega) ra rb ea eb _ _ _ rfl DO w
  · rw [if_neg hE]
    generalize s.reg ka = ra at *
    generalize s.reg kb = rb at *
    obtain ⟨r0, r1, r2, r3, t, en, i, a, c, s0, s1, s2, s3⟩ := s
    simp only at ea eb
    exact reckon_e r0 r1 r2 r3 t en i a c s0 s1 s2 s3 op ka kb (by omega) (by omega) z (by omega) ra rb ea eb _ _ _ hE DO w
theorem rreckon_all (s : St) (op x y z : Int) (hs : s.wf) (w : World) : Calls Try.prog 20 #[s.val, .int .i64 op, .int .i64 x, .int .i64 y, .int .i64 z] w fun e w' => e = .returned (.tuple #[(reckonS s op x y z).val, .int .i64 (reckonE op x y z)]) ∧ Below w.heap.size w w' := by
  unfold reckonS reckonE
  by_cases h : Regs3 x y z
  rotate_left
  · simp only [if_neg h]
    obtain ⟨r0, r1, r2, r3, t, en, i, a, c, s0, s1, s2, s3⟩ := s
    exact rreckon_no r0 r1 r2 r3 t en i a c s0 s1 s2 s3 op x y z h w
  simp only [if_pos h]
  obtain ⟨hx, hy, hz⟩ := h
  obtain ⟨ka, rfl⟩ : ∃ k : Nat, x = k := ⟨x.toNat, by omega⟩
  obtain ⟨kb, rfl⟩ : ∃ k : Nat, y = k := ⟨y.toNat, by omega⟩
  simp only [Int.toNat_natCast]
  obtain ⟨ea, pa, qa⟩ := hs.reg ka (by omega)
  obtain ⟨eb, pb, qb⟩ := hs.reg kb (by omega)
  have DO : ∀ W : World, Calls Try.prog 25 #[.int .i64 op, .int .u64 (s.reg ka), .int .u64 (s.reg kb)] W fun e w' => e = .returned (.tuple #[.int .u64 (FltM.doR op (s.reg ka).toNat (s.reg kb).toNat : Nat), .int .i64 (FltM.doT op (s.reg ka).toNat (s.reg kb).toNat), .int .i64 (FltM.doE op)]) ∧ ∃ n, w' = W.drewN n := fun W => rdo_any op _ _ pa qa pb qb W
  by_cases hE : FltM.doE op = 0
  · rw [if_pos hE]
    rw [hE] at DO ⊢
    generalize s.reg ka = ra at *
    generalize s.reg kb = rb at *
    obtain ⟨r0, r1, r2, r3, t, en, i, a, c, s0, s1, s2, s3⟩ := s
    simp only at ea eb
    have tb := hs.told
    rcases (show z = 0 ∨ z = 1 ∨ z = 2 ∨ z = 3 by omega) with rfl | rfl | rfl | rfl
    · exact rreckon_0 r0 r1 r2 r3 t en i a c s0 s1 s2 s3 op ka kb (by omega) (by omega) ra rb ea eb _ _ _ (tell_all t _ hs.told.1 hs.told.2 (tells_bd op _ _).1 (tells_bd op _ _).2) DO w
    · exact rreckon_1 r0 r1 r2 r3 t en i a c s0 s1 s2 s3 op ka kb (by omega) (by omega) ra rb ea eb _ _ _ (tell_all t _ hs.told.1 hs.told.2 (tells_bd op _ _).1 (tells_bd op _ _).2) DO w
    · exact rreckon_2 r0 r1 r2 r3 t en i a c s0 s1 s2 s3 op ka kb (by omega) (by omega) ra rb ea eb _ _ _ (tell_all t _ hs.told.1 hs.told.2 (tells_bd op _ _).1 (tells_bd op _ _).2) DO w
    · exact rreckon_3 r0 r1 r2 r3 t en i a c s0 s1 s2 s3 op ka kb (by omega) (by omega) ra rb ea eb _ _ _ (tell_all t _ hs.told.1 hs.told.2 (tells_bd op _ _).1 (tells_bd op _ _).2) DO w
  · rw [if_neg hE]
    generalize s.reg ka = ra at *
    generalize s.reg kb = rb at *
    obtain ⟨r0, r1, r2, r3, t, en, i, a, c, s0, s1, s2, s3⟩ := s
    simp only at ea eb
    exact rreckon_e r0 r1 r2 r3 t en i a c s0 s1 s2 s3 op ka kb (by omega) (by omega) z (by omega) ra rb ea eb _ _ _ hE DO w
/-- what a call of the laws does -/
def actS (s : St) (A : Ac) : St := if A.kind = 1 then raiseS s A.fa A.fc else if A.kind = 2 then returnS s else if A.kind = 3 then handleS s A.x else if A.kind = 4 then moveS s A.a A.x else if A.kind = 5 then reckonS s A.op A.a A.b A.d else s
def actE (s : St) (A : Ac) : Int := if A.kind = 1 then raiseE s else if A.kind = 2 then returnE s else if A.kind = 3 then handleE s else if A.kind = 4 then moveE A.a else if A.kind = 5 then reckonE A.op A.a A.b A.d else 0
theorem zero_u : U 0 := by decide
theorem actS_wf {s : St} (h : s.wf) {A : Ac} (hx : U A.x) (hf : U A.fa) : (actS s A).wf := by
  unfold actS
  split
  · unfold raiseS
    split
    · exact h
    split
    · exact h
    · exact ⟨hf, wrap_u _, zero_u, zero_u, h.told, h.r0, h.r1, h.r2, h.r3⟩
  split
  · unfold returnS
    split
    · exact ⟨h.s0, h.s1, h.s2, h.s3, h.told, zero_u, zero_u, zero_u, zero_u⟩
    · exact h
  split
  · unfold handleS
    split
    · exact h
    · exact ⟨h.r0, h.r1, h.r2, h.r3, h.told, h.s0, h.s1, h.s2, h.s3⟩
  split
  · unfold moveS
    split
    · exact h.put _ _ hx
    · exact h
  split
  · unfold reckonS
    split
    · rename_i hr
      split
      · have ra := (h.reg A.a.toNat (by omega)).2
        have rb := (h.reg A.b.toNat (by omega)).2
        have lt := FltM.doR_lt A.op (a := (s.reg A.a.toNat).toNat) (b := (s.reg A.b.toNat).toNat) (by omega) (by omega)
        have k := h.put A.d.toNat (FltM.doR A.op (s.reg A.a.toNat).toNat (s.reg A.b.toNat).toNat : Nat) ⟨by omega, by omega⟩
        exact { k with told := or_bd _ _ }
      · exact h
    · exact h
  · exact h
end Go.Proofs.Ytcieglidghnidaa
