/- Walk, as a function of the memory. -/
import Derived.Test.YtaebihgegiddnaaDoorW12
import Derived.Test.YtaebihgegiddnaaDoorW7
import Derived.Test.YtaebihgegiddnaaDoorP6
namespace Go.Proofs.YtaebihgegiddnaaDoor
open Go.ChangeShapes Go.WideShapes Go.ChangeAt Go.RowKit Go.Maps
set_option linter.unusedSimpArgs false
set_option linter.unusedVariables false
set_option maxRecDepth 8000

/-- an entry's number -/
def entV (M : Int → Int) (T P : Int) : Int := ld M (T * 4096 + P * 8) (8 : Int).toNat
/-- what an entry refuses a walk by -/
def badV (has : Int → Bool) (M : Int → Int) (T P L ad cd : Int) : Option (Int × Int × Int) :=
  if chkG has (T * 4096 + P * 8) 8 ≠ 0 then some (0, 0, chkG has (T * 4096 + P * 8) 8) else if bt (entV M T P) = false then some (ad, cd, 9) else if resV (entV M T P) L = true then some (ad, cd + 9, 9) else none
def orb (X b : Int) : Int := bits .or .u64 X b
/-- what a walk answers, and the bytes behind it -/
structure WR where
  er : Int
  fa : Int
  fc : Int
  fr : Int
  pw : Bool
  pu : Bool
  px : Bool
  g : Bool
  l : Bool
  d : Bool
  M : Int → Int
abbrev WR.val (r : WR) : Value := .tuple #[.agg #[.int .i64 r.fr, .bool r.pw, .bool r.pu, .bool r.px, .bool r.g, .bool r.l, .bool r.d], .agg #[.int .u64 r.fa, .int .i64 r.fc], .int .i64 r.er]
def WR.no (M : Int → Int) (a c e : Int) : WR := ⟨e, a, c, 0, false, false, false, false, false, false, M⟩
def end3 (M : Int → Int) (addr cd p3 : Int) (x u f : Bool) (A0 X0 A1 X1 A2 X2 : Int) : WR :=
  if mayV (((true && bt (X0 / 2)) && bt (X1 / 2)) && bt (X2 / 2)) (((true && bt (X0 / 4)) && bt (X1 / 4)) && bt (X2 / 4)) (((true && !bt (X0 / 9223372036854775808)) && !bt (X1 / 9223372036854775808)) && !bt (X2 / 9223372036854775808)) x u f = true then
    ⟨0, 0, 0, X2 / 4096 % 1048576 + p3, ((true && bt (X0 / 2)) && bt (X1 / 2)) && bt (X2 / 2), ((true && bt (X0 / 4)) && bt (X1 / 4)) && bt (X2 / 4), ((true && !bt (X0 / 9223372036854775808)) && !bt (X1 / 9223372036854775808)) && !bt (X2 / 9223372036854775808), bt (X2 / 256), true, bt (X2 / 64) || x,
      mset (mset (mset M A0 8 (orb X0 32)) A1 8 (orb X1 32)) A2 8 (orb X2 (if x then 96 else 32))⟩
  else WR.no M addr (cd + 1) 9
def end4 (M : Int → Int) (addr cd : Int) (x u f : Bool) (A0 X0 A1 X1 A2 X2 A3 X3 : Int) : WR :=
  if mayV ((((true && bt (X0 / 2)) && bt (X1 / 2)) && bt (X2 / 2)) && bt (X3 / 2)) ((((true && bt (X0 / 4)) && bt (X1 / 4)) && bt (X2 / 4)) && bt (X3 / 4)) ((((true && !bt (X0 / 9223372036854775808)) && !bt (X1 / 9223372036854775808)) && !bt (X2 / 9223372036854775808)) && !bt (X3 / 9223372036854775808)) x u f = true then
    ⟨0, 0, 0, X3 / 4096 % 1048576, (((true && bt (X0 / 2)) && bt (X1 / 2)) && bt (X2 / 2)) && bt (X3 / 2), (((true && bt (X0 / 4)) && bt (X1 / 4)) && bt (X2 / 4)) && bt (X3 / 4), (((true && !bt (X0 / 9223372036854775808)) && !bt (X1 / 9223372036854775808)) && !bt (X2 / 9223372036854775808)) && !bt (X3 / 9223372036854775808), bt (X3 / 256), false, bt (X3 / 64) || x,
      mset (mset (mset (mset M A0 8 (orb X0 32)) A1 8 (orb X1 32)) A2 8 (orb X2 32)) A3 8 (orb X3 (if x then 96 else 32))⟩
  else WR.no M addr (cd + 1) 9
def walk3 (has : Int → Bool) (M : Int → Int) (addr cd p3 : Int) (x u f : Bool) (A0 X0 A1 X1 A2 X2 : Int) : WR :=
  if bt (X2 / 128) = true then end3 M addr cd p3 x u f A0 X0 A1 X1 A2 X2 else
  match badV has M (X2 / 4096 % 1048576) p3 1 addr cd with
  | some (a, c, e) => WR.no M a c e
  | none => end4 M addr cd x u f A0 X0 A1 X1 A2 X2 (X2 / 4096 % 1048576 * 4096 + p3 * 8) (entV M (X2 / 4096 % 1048576) p3)
def walk2 (has : Int → Bool) (M : Int → Int) (addr cd p2 p3 : Int) (x u f : Bool) (A0 X0 A1 X1 : Int) : WR :=
  match badV has M (X1 / 4096 % 1048576) p2 2 addr cd with
  | some (a, c, e) => WR.no M a c e
  | none => walk3 has M addr cd p3 x u f A0 X0 A1 X1 (X1 / 4096 % 1048576 * 4096 + p2 * 8) (entV M (X1 / 4096 % 1048576) p2)
def walk1 (has : Int → Bool) (M : Int → Int) (addr cd p1 p2 p3 : Int) (x u f : Bool) (A0 X0 : Int) : WR :=
  match badV has M (X0 / 4096 % 1048576) p1 3 addr cd with
  | some (a, c, e) => WR.no M a c e
  | none => walk2 has M addr cd p2 p3 x u f A0 X0 (X0 / 4096 % 1048576 * 4096 + p1 * 8) (entV M (X0 / 4096 % 1048576) p1)
def walk0 (has : Int → Bool) (M : Int → Int) (root addr cd p0 p1 p2 p3 : Int) (x u f : Bool) : WR :=
  match badV has M root p0 4 addr cd with
  | some (a, c, e) => WR.no M a c e
  | none => walk1 has M addr cd p1 p2 p3 x u f (root * 4096 + p0 * 8) (entV M root p0)
def walkW (has : Int → Bool) (M : Int → Int) (root addr : Int) (x u f : Bool) : WR :=
  if (ext addr == addr) = false then WR.no M 0 0 1 else if has root = false then WR.no M 0 0 2 else
  walk0 has M root addr (codeV x u f) (addr / 4096 / 512 / 512 / 512 % 512) (addr / 4096 / 512 / 512 % 512) (addr / 4096 / 512 % 512) (addr / 4096 % 512) x u f
theorem code9 (x u f : Bool) : bits .or .i64 (codeV x u f) 9 = codeV x u f + 9 := by cases x <;> cases u <;> cases f <;> decide
theorem code1 (x u f : Bool) : bits .or .i64 (codeV x u f) 1 = codeV x u f + 1 := by cases x <;> cases u <;> cases f <;> decide
theorem code0 (x u f : Bool) : bits .or .i64 (codeV x u f) 0 = codeV x u f := by cases x <;> cases u <;> cases f <;> decide
theorem orb_bd (X b : Int) (h0 : 0 ≤ X) (h1 : X < 18446744073709551616) (b0 : 0 ≤ b) (b1 : b < 18446744073709551616) : 0 ≤ orb X b ∧ orb X b < 18446744073709551616 := by
  unfold orb
  rw [u64_or X b h0 h1 b0 b1]
  have := Nat.or_lt_two_pow (x := X.toNat) (y := b.toNat) (n := 64) (by omega) (by omega)
  omega
theorem ent_bd {M : Int → Int} (hM : ∀ t, 0 ≤ M t ∧ M t < 256) (T P : Int) : 0 ≤ entV M T P ∧ entV M T P < 18446744073709551616 := by
  have := ld_bd hM (T * 4096 + P * 8) 8
  exact this
theorem look_good {rb n : Nat} {has : Int → Bool} {F : Int} {M : Int → Int} (hM : ∀ t, 0 ≤ M t ∧ M t < 256) (T P L ad cd : Int) (t0 : 0 ≤ T) (t1 : T < 1048576) (p0 : 0 ≤ P) (p1 : P < 512) (hb : badV has M T P L ad cd = none) :
    chkG has (T * 4096 + P * 8) 8 = 0 ∧ Hid (∀ w : World, Rd w rb has F M n → Calls Tryd.prog 42 #[.pointer (some ⟨rb, 0, none⟩), .int .i64 T, .int .i64 P, .int .i64 L, .agg #[.int .u64 ad, .int .i64 cd]] w fun e w' => e = .returned (.agg #[.int .u64 (T * 4096 + P * 8), .int .u64 (entV M T P), .bool (bt ((entV M T P))), .bool (bt ((entV M T P) / 2)), .bool (bt ((entV M T P) / 4)), .bool (bt ((entV M T P) / 32)), .bool (bt ((entV M T P) / 64)), .bool (bt ((entV M T P) / 128)), .bool (bt ((entV M T P) / 256)), .bool (bt ((entV M T P) / 9223372036854775808)), .int .i64 ((entV M T P) / 4096 % 1048576), .int .i64 L]) ∧ Below w.heap.size w w') := by
  unfold badV at hb
  split at hb
  · cases hb
  · rename_i h1
    split at hb
    · cases hb
    · rename_i h2
      split at hb
      · cases hb
      · rename_i h3
        have hc : chkG has (T * 4096 + P * 8) 8 = 0 := by simpa using h1
        have h4 : bt (entV M T P) = true := by simpa using h2
        have h5 : resV (entV M T P) L = false := by simpa using h3
        have hbd := ent_bd hM T P
        refine ⟨hc, fun w h => ?_⟩
        exact look_ok T P L ad cd (entV M T P) t0 t1 p0 p1 _ _ _ _ _ _ _ _ _ hc rfl hbd.1 hbd.2 rfl h4 h5 w h
theorem look_bad {rb n : Nat} {has : Int → Bool} {F : Int} {M : Int → Int} (hM : ∀ t, 0 ≤ M t ∧ M t < 256) (T P L ad : Int) (x u f : Bool) (t0 : 0 ≤ T) (t1 : T < 1048576) (p0 : 0 ≤ P) (p1 : P < 512) {a c e : Int} (hb : badV has M T P L ad (codeV x u f) = some (a, c, e)) :
    Hid (∀ w : World, Rd w rb has F M n → Calls Tryd.prog 42 #[.pointer (some ⟨rb, 0, none⟩), .int .i64 T, .int .i64 P, .int .i64 L, .agg #[.int .u64 ad, .int .i64 (codeV x u f)]] w fun en w' => en = .panicked [refv a c e] ∧ Below w.heap.size w w') := by
  unfold badV at hb
  have hbd := ent_bd hM T P
  split at hb
  · rename_i h1
    cases hb
    exact fun w h => look_bus T P L ad (codeV x u f) 0 t0 t1 p0 p1 _ rfl h1 w h
  · rename_i h1
    have hc : chkG has (T * 4096 + P * 8) 8 = 0 := by simpa using h1
    split at hb
    · rename_i h2
      cases hb
      exact fun w h => look_absent T P L ad (codeV x u f) (entV M T P) t0 t1 p0 p1 _ _ _ _ _ _ _ _ _ hc rfl hbd.1 hbd.2 rfl h2 (code0 x u f) w h
    · rename_i h2
      split at hb
      · rename_i h3
        cases hb
        have h4 : bt (entV M T P) = true := by simpa using h2
        exact fun w h => look_reserved T P L ad (codeV x u f) (entV M T P) t0 t1 p0 p1 _ _ _ _ _ _ _ _ _ hc rfl hbd.1 hbd.2 rfl h4 h3 _ (code9 x u f) w h
      · cases hb
end Go.Proofs.YtaebihgegiddnaaDoor
