/- Walks of memories that are alike; the walk level by level; boxes, steps, comparisons; Same. -/
import Derived.Test.YtaebihgegiddnaaDoorL7
namespace Go.Proofs.YtaebihgegiddnaaDoor
open Go.ChangeShapes Go.WideShapes Go.ChangeAt Go.RowKit Go.Maps
set_option linter.unusedSimpArgs false
set_option linter.unusedVariables false
set_option maxRecDepth 8000

/-- alike but for the marks -/
def Lk (X Y : Int) : Prop := X % 32 = Y % 32 ∧ X / 128 = Y / 128
def Lkm (M M' : Int → Int) : Prop := ∀ T P : Int, Lk (entV M T P) (entV M' T P)
theorem Lk.refl (X : Int) : Lk X X := ⟨rfl, rfl⟩
theorem Lk.symm {X Y : Int} (h : Lk X Y) : Lk Y X := ⟨h.1.symm, h.2.symm⟩
theorem Lk.trans {X Y Z : Int} (h : Lk X Y) (k : Lk Y Z) : Lk X Z := ⟨h.1.trans k.1, h.2.trans k.2⟩
theorem Lkm.refl (M : Int → Int) : Lkm M M := fun _ _ => Lk.refl _
theorem Lkm.symm {M M' : Int → Int} (h : Lkm M M') : Lkm M' M := fun T P => (h T P).symm
theorem Lkm.trans {M M' N : Int → Int} (h : Lkm M M') (k : Lkm M' N) : Lkm M N := fun T P => (h T P).trans (k T P)
theorem bt_eq {a b : Int} (h : a % 2 = b % 2) : bt a = bt b := by unfold bt; rw [h]
theorem Lk.b0 {X Y : Int} (h : Lk X Y) : bt X = bt Y := bt_eq (by have := h.1; omega)
theorem Lk.b1 {X Y : Int} (h : Lk X Y) : bt (X / 2) = bt (Y / 2) := bt_eq (by have := h.1; omega)
theorem Lk.b2 {X Y : Int} (h : Lk X Y) : bt (X / 4) = bt (Y / 4) := bt_eq (by have := h.1; omega)
theorem Lk.b7 {X Y : Int} (h : Lk X Y) : bt (X / 128) = bt (Y / 128) := by rw [h.2]
theorem Lk.b8 {X Y : Int} (h : Lk X Y) : bt (X / 256) = bt (Y / 256) := bt_eq (by have := h.2; omega)
theorem Lk.b63 {X Y : Int} (h : Lk X Y) : bt (X / 9223372036854775808) = bt (Y / 9223372036854775808) := bt_eq (by have := h.2; omega)
theorem Lk.fr {X Y : Int} (h : Lk X Y) : X / 4096 % 1048576 = Y / 4096 % 1048576 := by have := h.2; omega
theorem Lk.res {X Y : Int} (h : Lk X Y) (L : Int) : resV X L = resV Y L := by
  have e1 : X / 4294967296 % 1048576 = Y / 4294967296 % 1048576 := by have := h.2; omega
  have e2 : X / 4096 % 512 = Y / 4096 % 512 := by have := h.2; omega
  unfold resV
  rw [h.b0, h.b7, e1, e2]
/-! ### marks -/
theorem orb_nat (X : Int) (b : Nat) (h0 : 0 ≤ X) (h1 : X < 18446744073709551616) (hb : b < 128) : orb X b = ((X.toNat ||| b : Nat) : Int) := by
  unfold orb
  rw [u64_or X b h0 h1 (by omega) (by omega)]
  simp
theorem orb_lk (X : Int) (b : Nat) (h0 : 0 ≤ X) (h1 : X < 18446744073709551616) (hb : b = 32 ∨ b = 96) : Lk X (orb X b) := by
  rw [orb_nat X b h0 h1 (by omega)]
  have d : (X.toNat ||| b) / 2 ^ 7 = X.toNat / 2 ^ 7 := by
    rw [Nat.or_div_two_pow, Nat.div_eq_of_lt (show b < 2 ^ 7 by omega), Nat.or_zero]
  have m : (X.toNat ||| b) % 2 ^ 5 = X.toNat % 2 ^ 5 := by
    rw [Nat.or_mod_two_pow, show b % 2 ^ 5 = 0 by omega, Nat.or_zero]
  generalize X.toNat ||| b = Y at *
  exact ⟨by omega, by omega⟩
theorem orn_bit (n b k : Nat) : (n ||| b) / 2 ^ k % 2 = (n / 2 ^ k % 2) ||| (b / 2 ^ k % 2) := by
  rw [Nat.or_div_two_pow, show (2 : Nat) = 2 ^ 1 from rfl, Nat.or_mod_two_pow]
theorem orb_d32 (X : Int) (h0 : 0 ≤ X) (h1 : X < 18446744073709551616) : bt (orb X 32 / 64) = bt (X / 64) := by
  rw [show (32 : Int) = ((32 : Nat) : Int) from rfl, orb_nat X 32 h0 h1 (by omega)]
  have d := orn_bit X.toNat 32 6
  rw [show 32 / 2 ^ 6 % 2 = 0 from rfl, Nat.or_zero] at d
  generalize X.toNat ||| 32 = Y at *
  exact bt_eq (by omega)
theorem orb_d96 (X : Int) (h0 : 0 ≤ X) (h1 : X < 18446744073709551616) : bt (orb X 96 / 64) = true := by
  rw [show (96 : Int) = ((96 : Nat) : Int) from rfl, orb_nat X 96 h0 h1 (by omega)]
  have d := orn_bit X.toNat 96 6
  rw [show 96 / 2 ^ 6 % 2 = 1 from rfl] at d
  have o : ∀ z : Nat, z < 2 → z ||| 1 = 1 := by decide
  rw [o _ (Nat.mod_lt _ (by omega))] at d
  generalize X.toNat ||| 96 = Y at *
  unfold bt
  rw [show ((Y : Nat) : Int) / 64 % 2 = 1 by omega]; rfl
theorem orb_u (X : Int) (b : Nat) (h0 : 0 ≤ X) (h1 : X < 18446744073709551616) (hb : b < 128) : bt (orb X b / 32) = (bt (X / 32) || decide (b / 32 % 2 = 1)) := by
  rw [orb_nat X b h0 h1 hb]
  have d := orn_bit X.toNat b 5
  have o : ∀ y : Nat, y < 2 → ∀ z : Nat, z < 2 → (((y ||| z) == 1) = ((y == 1) || decide (z = 1))) := by decide
  have k := o (X.toNat / 2 ^ 5 % 2) (Nat.mod_lt _ (by omega)) (b / 2 ^ 5 % 2) (Nat.mod_lt _ (by omega))
  rw [← d] at k
  generalize X.toNat ||| b = Y at *
  have e1 : bt ((Y : Int) / 32) = (Y / 2 ^ 5 % 2 == 1) := by
    unfold bt
    rcases (show (Y / 32 % 2 = 0 ∨ Y / 32 % 2 = 1) by omega) with h | h
    · rw [show ((Y : Nat) : Int) / 32 % 2 = 0 by omega, show Y / 2 ^ 5 % 2 = 0 by omega]; rfl
    · rw [show ((Y : Nat) : Int) / 32 % 2 = 1 by omega, show Y / 2 ^ 5 % 2 = 1 by omega]; rfl
  have e2 : bt (X / 32) = (X.toNat / 2 ^ 5 % 2 == 1) := by
    unfold bt
    rcases (show (X.toNat / 32 % 2 = 0 ∨ X.toNat / 32 % 2 = 1) by omega) with h | h
    · rw [show X / 32 % 2 = 0 by omega, show X.toNat / 2 ^ 5 % 2 = 0 by omega]; rfl
    · rw [show X / 32 % 2 = 1 by omega, show X.toNat / 2 ^ 5 % 2 = 1 by omega]; rfl
  rw [e1, e2, k]
theorem ent_set (M : Int → Int) (q v T P : Int) (h0 : 0 ≤ v) (h1 : v < 18446744073709551616) : entV (mset M (8 * q) 8 v) T P = if T * 4096 + P * 8 = 8 * q then v else entV M T P := by
  unfold entV
  by_cases h : T * 4096 + P * 8 = 8 * q
  · rw [if_pos h, h]; exact ld_mset8 M (8 * q) v h0 h1
  · rw [if_neg h]
    exact ld_mset_apart M (by show _ ∨ _; simp only [show (8 : Int).toNat = 8 from rfl]; omega)
/-- one entry more is marked -/
theorem lkm_mark {M M1 : Int → Int} (hM : ∀ t, 0 ≤ M t ∧ M t < 256) (h : Lkm M M1) (T0 P0 : Int) (b : Nat) (hb : b = 32 ∨ b = 96) : Lkm M (mset M1 (T0 * 4096 + P0 * 8) 8 (orb (entV M T0 P0) b)) := by
  intro T P
  have bd := ent_bd hM T0 P0
  have ob := orb_bd (entV M T0 P0) b bd.1 bd.2 (by omega) (by omega)
  rw [show T0 * 4096 + P0 * 8 = 8 * (T0 * 512 + P0) by omega, ent_set M1 _ _ T P ob.1 ob.2]
  split
  · rename_i e
    have : entV M T P = entV M T0 P0 := by unfold entV; rw [show T * 4096 + P * 8 = T0 * 4096 + P0 * 8 by omega]
    rw [this]
    exact orb_lk _ b bd.1 bd.2 hb
  · exact h T P
/-! ### walks that are alike -/
structure Sim (addr addr' : Int) (r r' : WR) : Prop where
  er : r'.er = r.er
  fc : r'.fc = r.fc
  fr : r'.fr = r.fr
  pw : r'.pw = r.pw
  pu : r'.pu = r.pu
  px : r'.px = r.px
  g : r'.g = r.g
  l : r'.l = r.l
  fa : r.er = 9 → r.fa = addr ∧ r'.fa = addr'
theorem sim_no {addr addr' a a' c e : Int} (M M' : Int → Int) (h : e = 9 → a = addr ∧ a' = addr') : Sim addr addr' (WR.no M a c e) (WR.no M' a' c e) := ⟨rfl, rfl, rfl, rfl, rfl, rfl, rfl, rfl, h⟩
theorem sim_end3 {M M' : Int → Int} {addr addr' cd p3 A0 A1 A2 B0 B1 B2 X0 X1 X2 Y0 Y1 Y2 : Int} (x u f : Bool) (h0 : Lk X0 Y0) (h1 : Lk X1 Y1) (h2 : Lk X2 Y2) :
    Sim addr addr' (end3 M addr cd p3 x u f A0 X0 A1 X1 A2 X2) (end3 M' addr' cd p3 x u f B0 Y0 B1 Y1 B2 Y2) := by
  unfold end3
  rw [← h0.b1, ← h1.b1, ← h2.b1, ← h0.b2, ← h1.b2, ← h2.b2, ← h0.b63, ← h1.b63, ← h2.b63, ← h2.b8, ← h2.fr]
  split
  · exact ⟨rfl, rfl, rfl, rfl, rfl, rfl, rfl, rfl, fun h => by cases h⟩
  · exact sim_no M M' (fun _ => ⟨rfl, rfl⟩)
theorem sim_end4 {M M' : Int → Int} {addr addr' cd A0 A1 A2 A3 B0 B1 B2 B3 X0 X1 X2 X3 Y0 Y1 Y2 Y3 : Int} (x u f : Bool) (h0 : Lk X0 Y0) (h1 : Lk X1 Y1) (h2 : Lk X2 Y2) (h3 : Lk X3 Y3) :
    Sim addr addr' (end4 M addr cd x u f A0 X0 A1 X1 A2 X2 A3 X3) (end4 M' addr' cd x u f B0 Y0 B1 Y1 B2 Y2 B3 Y3) := by
  unfold end4
  rw [← h0.b1, ← h1.b1, ← h2.b1, ← h3.b1, ← h0.b2, ← h1.b2, ← h2.b2, ← h3.b2, ← h0.b63, ← h1.b63, ← h2.b63, ← h3.b63, ← h3.b8, ← h3.fr]
  split
  · exact ⟨rfl, rfl, rfl, rfl, rfl, rfl, rfl, rfl, fun h => by cases h⟩
  · exact sim_no M M' (fun _ => ⟨rfl, rfl⟩)
theorem bad_sim {M M' : Int → Int} (h : Lkm M M') (has : Int → Bool) (T P L ad ad' cd : Int) :
    (badV has M T P L ad cd = none ∧ badV has M' T P L ad' cd = none) ∨ ∃ a a' c e, badV has M T P L ad cd = some (a, c, e) ∧ badV has M' T P L ad' cd = some (a', c, e) ∧ (e = 9 → a = ad ∧ a' = ad') := by
  unfold badV
  rw [← (h T P).b0, ← (h T P).res L]
  by_cases c1 : chkG has (T * 4096 + P * 8) 8 ≠ 0
  · rw [if_pos c1, if_pos c1]
    refine Or.inr ⟨0, 0, 0, _, rfl, rfl, fun h9 => ?_⟩
    exfalso
    unfold chkG at h9 c1
    rw [if_pos (by omega)] at h9
    split at h9 <;> omega
  · rw [if_neg c1, if_neg c1]
    by_cases c2 : bt (entV M T P) = false
    · rw [if_pos c2, if_pos c2]
      exact Or.inr ⟨ad, ad', cd, 9, rfl, rfl, fun _ => ⟨rfl, rfl⟩⟩
    · rw [if_neg c2, if_neg c2]
      by_cases c3 : resV (entV M T P) L = true
      · rw [if_pos c3, if_pos c3]
        exact Or.inr ⟨ad, ad', cd + 9, 9, rfl, rfl, fun _ => ⟨rfl, rfl⟩⟩
      · rw [if_neg c3, if_neg c3]
        exact Or.inl ⟨rfl, rfl⟩
theorem sim_walk3 {M M' : Int → Int} (h : Lkm M M') (has : Int → Bool) {addr addr' cd p3 A0 A1 A2 B0 B1 B2 X0 X1 X2 Y0 Y1 Y2 : Int} (x u f : Bool) (h0 : Lk X0 Y0) (h1 : Lk X1 Y1) (h2 : Lk X2 Y2) :
    Sim addr addr' (walk3 has M addr cd p3 x u f A0 X0 A1 X1 A2 X2) (walk3 has M' addr' cd p3 x u f B0 Y0 B1 Y1 B2 Y2) := by
  unfold walk3
  rw [← h2.b7, ← h2.fr]
  split
  · exact sim_end3 x u f h0 h1 h2
  · rcases bad_sim h has (X2 / 4096 % 1048576) p3 1 addr addr' cd with ⟨e1, e2⟩ | ⟨a, a', c, e, e1, e2, e3⟩
    · rw [e1, e2]; exact sim_end4 x u f h0 h1 h2 (h _ _)
    · rw [e1, e2]; exact sim_no M M' e3
theorem sim_walk2 {M M' : Int → Int} (h : Lkm M M') (has : Int → Bool) {addr addr' cd p2 p3 A0 A1 B0 B1 X0 X1 Y0 Y1 : Int} (x u f : Bool) (h0 : Lk X0 Y0) (h1 : Lk X1 Y1) :
    Sim addr addr' (walk2 has M addr cd p2 p3 x u f A0 X0 A1 X1) (walk2 has M' addr' cd p2 p3 x u f B0 Y0 B1 Y1) := by
  unfold walk2
  rw [← h1.fr]
  rcases bad_sim h has (X1 / 4096 % 1048576) p2 2 addr addr' cd with ⟨e1, e2⟩ | ⟨a, a', c, e, e1, e2, e3⟩
  · rw [e1, e2]; exact sim_walk3 h has x u f h0 h1 (h _ _)
  · rw [e1, e2]; exact sim_no M M' e3
theorem sim_walk1 {M M' : Int → Int} (h : Lkm M M') (has : Int → Bool) {addr addr' cd p1 p2 p3 A0 B0 X0 Y0 : Int} (x u f : Bool) (h0 : Lk X0 Y0) :
    Sim addr addr' (walk1 has M addr cd p1 p2 p3 x u f A0 X0) (walk1 has M' addr' cd p1 p2 p3 x u f B0 Y0) := by
  unfold walk1
  rw [← h0.fr]
  rcases bad_sim h has (X0 / 4096 % 1048576) p1 3 addr addr' cd with ⟨e1, e2⟩ | ⟨a, a', c, e, e1, e2, e3⟩
  · rw [e1, e2]; exact sim_walk2 h has x u f h0 (h _ _)
  · rw [e1, e2]; exact sim_no M M' e3
theorem sim_walk0 {M M' : Int → Int} (h : Lkm M M') (has : Int → Bool) {root addr addr' cd p0 p1 p2 p3 : Int} (x u f : Bool) :
    Sim addr addr' (walk0 has M root addr cd p0 p1 p2 p3 x u f) (walk0 has M' root addr' cd p0 p1 p2 p3 x u f) := by
  unfold walk0
  rcases bad_sim h has root p0 4 addr addr' cd with ⟨e1, e2⟩ | ⟨a, a', c, e, e1, e2, e3⟩
  · rw [e1, e2]; exact sim_walk1 h has x u f (h _ _)
  · rw [e1, e2]; exact sim_no M M' e3
theorem can_page {a b : Int} (h : a / 4096 = b / 4096) (a0 : 0 ≤ a) (a1 : a < 18446744073709551616) (b0 : 0 ≤ b) (b1 : b < 18446744073709551616) : (ext a == a) = (ext b == b) := by
  have e : ∀ x : Int, 0 ≤ x → x < 18446744073709551616 → ((ext x == x) = decide (x / 4096 < 34359738368 ∨ 4503565267632128 ≤ x / 4096)) := fun x x0 x1 => by
    unfold ext
    by_cases h : x / 4096 < 34359738368 ∨ 4503565267632128 ≤ x / 4096
    · rw [decide_eq_true h]
      split <;> (simp; omega)
    · rw [decide_eq_false h]
      split <;> (simp; omega)
  rw [e a a0 a1, e b b0 b1, h]
/-- two addresses of one page, in memories that are alike -/
theorem sim_walk {M M' : Int → Int} (h : Lkm M M') (has : Int → Bool) (root : Int) {a b : Int} (hp : a / 4096 = b / 4096) (a0 : 0 ≤ a) (a1 : a < 18446744073709551616) (b0 : 0 ≤ b) (b1 : b < 18446744073709551616) (x u f : Bool) :
    Sim a b (walkW has M root a x u f) (walkW has M' root b x u f) := by
  unfold walkW
  rw [← can_page hp a0 a1 b0 b1, ← hp]
  split
  · exact sim_no M M' (fun h => by omega)
  split
  · exact sim_no M M' (fun h => by omega)
  · exact sim_walk0 h has x u f
end Go.Proofs.YtaebihgegiddnaaDoor
namespace Go.Proofs.YtaebihgegiddnaaDoor
open Go.ChangeShapes Go.WideShapes Go.ChangeAt Go.RowKit Go.Maps
set_option linter.unusedSimpArgs false
set_option linter.unusedVariables false
set_option maxRecDepth 8000

theorem bad_e (has : Int → Bool) (M : Int → Int) (T P L : Int) : (∀ ad cd, badV has M T P L ad cd = none) ∨ ∃ e, e ≠ 0 ∧ ∀ ad cd, ∃ a c, badV has M T P L ad cd = some (a, c, e) := by
  unfold badV
  by_cases c1 : chkG has (T * 4096 + P * 8) 8 ≠ 0
  · exact Or.inr ⟨_, c1, fun ad cd => ⟨0, 0, by rw [if_pos c1]⟩⟩
  · by_cases c2 : bt (entV M T P) = false
    · exact Or.inr ⟨9, by omega, fun ad cd => ⟨ad, cd, by rw [if_neg c1, if_pos c2]⟩⟩
    · by_cases c3 : resV (entV M T P) L = true
      · exact Or.inr ⟨9, by omega, fun ad cd => ⟨ad, cd + 9, by rw [if_neg c1, if_neg c2, if_pos c3]⟩⟩
      · exact Or.inl (fun ad cd => by rw [if_neg c1, if_neg c2, if_neg c3])
theorem bad_there {has : Int → Bool} {M : Int → Int} {T P L ad cd : Int} (h : badV has M T P L ad cd = none) : bt (entV M T P) = true ∧ chkG has (T * 4096 + P * 8) 8 = 0 := by
  unfold badV at h
  split at h
  · cases h
  split at h
  · cases h
  split at h
  · cases h
  · rename_i c1 c2 c3
    exact ⟨by simpa using c2, by simpa using c1⟩
/-- the table and the place of the last entry -/
def lastTP (M : Int → Int) (root addr : Int) : Int × Int :=
  if bt (entV M (entV M (entV M root (addr / 4096 / 512 / 512 / 512 % 512) / 4096 % 1048576) (addr / 4096 / 512 / 512 % 512) / 4096 % 1048576) (addr / 4096 / 512 % 512) / 128) = true then
    (entV M (entV M root (addr / 4096 / 512 / 512 / 512 % 512) / 4096 % 1048576) (addr / 4096 / 512 / 512 % 512) / 4096 % 1048576, addr / 4096 / 512 % 512)
  else (entV M (entV M (entV M root (addr / 4096 / 512 / 512 / 512 % 512) / 4096 % 1048576) (addr / 4096 / 512 / 512 % 512) / 4096 % 1048576) (addr / 4096 / 512 % 512) / 4096 % 1048576, addr / 4096 % 512)
theorem last_lk {M M' : Int → Int} (h : Lkm M M') (root : Int) {a b : Int} (hp : a / 4096 = b / 4096) : lastTP M' root b = lastTP M root a := by
  unfold lastTP
  rw [← hp]
  rw [← (h root _).fr, ← (h _ _).fr, ← (h _ _).b7, ← (h _ _).fr]
/-- what is found, whatever the access -/
structure Hit (has : Int → Bool) (M : Int → Int) (root addr : Int) where
  fr : Int
  pw : Bool
  pu : Bool
  px : Bool
  g : Bool
  l : Bool
  T : Int
  P : Int
  tp : (T, P) = lastTP M root addr
abbrev p0of (addr : Int) : Int := addr / 4096 / 512 / 512 / 512 % 512
structure Hit.says {has : Int → Bool} {M : Int → Int} {root addr : Int} (h : Hit has M root addr) (x u f : Bool) (r : WR) : Prop where
  er : r.er = 0
  fa : r.fa = 0
  fc : r.fc = 0
  fr : r.fr = h.fr
  pw : r.pw = h.pw
  pu : r.pu = h.pu
  px : r.px = h.px
  g : r.g = h.g
  l : r.l = h.l
  d : r.d = (bt (entV M h.T h.P / 64) || x)
  m : Lkm M r.M
  e : entV r.M h.T h.P = orb (entV M h.T h.P) (if x then 96 else 32)
  b : bt (entV r.M root (p0of addr)) = true ∧ bt (entV r.M root (p0of addr) / 32) = true ∧ chkG has (root * 4096 + p0of addr * 8) 8 = 0
theorem ent_top (M : Int → Int) (T P v : Int) (h0 : 0 ≤ v) (h1 : v < 18446744073709551616) : entV (mset M (T * 4096 + P * 8) 8 v) T P = v := by
  unfold entV; exact ld_mset8 M _ v h0 h1
theorem b5_mark {M M1 : Int → Int} (hM : ∀ t, 0 ≤ M t ∧ M t < 256) (T P T0 P0 : Int) (b : Nat) (hb : b = 32 ∨ b = 96) (h : bt (entV M1 T P / 32) = true) : bt (entV (mset M1 (T0 * 4096 + P0 * 8) 8 (orb (entV M T0 P0) b)) T P / 32) = true := by
  have bd := ent_bd hM T0 P0
  have ob := orb_bd (entV M T0 P0) b bd.1 bd.2 (by omega) (by omega)
  rw [show T0 * 4096 + P0 * 8 = 8 * (T0 * 512 + P0) by omega, ent_set M1 _ _ T P ob.1 ob.2]
  split
  · rw [orb_u _ b bd.1 bd.2 (by omega)]
    rcases hb with rfl | rfl <;> simp
  · exact h
theorem mark_first {M : Int → Int} (hM : ∀ t, 0 ≤ M t ∧ M t < 256) (T P : Int) : bt (entV (mset M (T * 4096 + P * 8) 8 (orb (entV M T P) ((32 : Nat) : Int))) T P / 32) = true := by
  have bd := ent_bd hM T P
  have ob := orb_bd (entV M T P) ((32 : Nat) : Int) bd.1 bd.2 (by omega) (by omega)
  rw [ent_top M T P _ ob.1 ob.2, orb_u _ 32 bd.1 bd.2 (by omega)]
  simp
theorem walk_core {M : Int → Int} (hM : ∀ t, 0 ≤ M t ∧ M t < 256) (has : Int → Bool) (root addr : Int) :
    (∃ e, e ≠ 0 ∧ ∀ x u f, ∃ a c, walkW has M root addr x u f = WR.no M a c e) ∨
    ∃ h : Hit has M root addr, ∀ x u f, (mayV h.pw h.pu h.px x u f = false → ∃ a c, walkW has M root addr x u f = WR.no M a c 9) ∧ (mayV h.pw h.pu h.px x u f = true → h.says x u f (walkW has M root addr x u f)) := by
  by_cases c1 : (ext addr == addr) = false
  · exact Or.inl ⟨1, by omega, fun x u f => ⟨0, 0, by unfold walkW; rw [if_pos c1]⟩⟩
  by_cases c2 : has root = false
  · exact Or.inl ⟨2, by omega, fun x u f => ⟨0, 0, by unfold walkW; rw [if_neg c1, if_pos c2]⟩⟩
  have w0 : ∀ x u f, walkW has M root addr x u f = walk0 has M root addr (codeV x u f) (addr / 4096 / 512 / 512 / 512 % 512) (addr / 4096 / 512 / 512 % 512) (addr / 4096 / 512 % 512) (addr / 4096 % 512) x u f := fun x u f => by
    unfold walkW; rw [if_neg c1, if_neg c2]
  have hq0 : p0of addr = addr / 4096 / 512 / 512 / 512 % 512 := rfl
  have hl : lastTP M root addr = if bt (entV M (entV M (entV M root (addr / 4096 / 512 / 512 / 512 % 512) / 4096 % 1048576) (addr / 4096 / 512 / 512 % 512) / 4096 % 1048576) (addr / 4096 / 512 % 512) / 128) = true then
    (entV M (entV M root (addr / 4096 / 512 / 512 / 512 % 512) / 4096 % 1048576) (addr / 4096 / 512 / 512 % 512) / 4096 % 1048576, addr / 4096 / 512 % 512)
  else (entV M (entV M (entV M root (addr / 4096 / 512 / 512 / 512 % 512) / 4096 % 1048576) (addr / 4096 / 512 / 512 % 512) / 4096 % 1048576) (addr / 4096 / 512 % 512) / 4096 % 1048576, addr / 4096 % 512) := rfl
  generalize addr / 4096 / 512 / 512 / 512 % 512 = q0 at w0 hq0 hl
  generalize addr / 4096 / 512 / 512 % 512 = q1 at w0 hl
  generalize addr / 4096 / 512 % 512 = q2 at w0 hl
  generalize addr / 4096 % 512 = q3 at w0 hl
  rcases bad_e has M root q0 4 with n0 | ⟨e, he, hb⟩
  rotate_left
  · refine Or.inl ⟨e, he, fun x u f => ?_⟩
    obtain ⟨a, c, hac⟩ := hb addr (codeV x u f)
    exact ⟨a, c, by rw [w0]; unfold walk0; rw [hac]⟩
  have th := bad_there (n0 0 0)
  have w1 : ∀ x u f, walkW has M root addr x u f = walk1 has M addr (codeV x u f) q1 q2 q3 x u f (root * 4096 + q0 * 8) (entV M root q0) := fun x u f => by
    rw [w0]; unfold walk0; rw [n0]
  clear w0
  obtain ⟨X0, hX0⟩ : ∃ X0, X0 = entV M root q0 := ⟨_, rfl⟩
  rcases bad_e has M (entV M root q0 / 4096 % 1048576) q1 3 with n1 | ⟨e, he, hb⟩
  rotate_left
  · refine Or.inl ⟨e, he, fun x u f => ?_⟩
    obtain ⟨a, c, hac⟩ := hb addr (codeV x u f)
    exact ⟨a, c, by rw [w1]; unfold walk1; rw [hac]⟩
  have w2 : ∀ x u f, walkW has M root addr x u f = walk2 has M addr (codeV x u f) q2 q3 x u f (root * 4096 + q0 * 8) (entV M root q0) (entV M root q0 / 4096 % 1048576 * 4096 + q1 * 8) (entV M (entV M root q0 / 4096 % 1048576) q1) := fun x u f => by
    rw [w1]; unfold walk1; rw [n1]
  clear w1
  obtain ⟨T1, hT1⟩ : ∃ T1, T1 = entV M root q0 / 4096 % 1048576 := ⟨_, rfl⟩
  rw [← hT1] at w2 n1 hl
  rcases bad_e has M (entV M T1 q1 / 4096 % 1048576) q2 2 with n2 | ⟨e, he, hb⟩
  rotate_left
  · refine Or.inl ⟨e, he, fun x u f => ?_⟩
    obtain ⟨a, c, hac⟩ := hb addr (codeV x u f)
    exact ⟨a, c, by rw [w2]; unfold walk2; rw [hac]⟩
  have w3 : ∀ x u f, walkW has M root addr x u f = walk3 has M addr (codeV x u f) q3 x u f (root * 4096 + q0 * 8) (entV M root q0) (T1 * 4096 + q1 * 8) (entV M T1 q1) (entV M T1 q1 / 4096 % 1048576 * 4096 + q2 * 8) (entV M (entV M T1 q1 / 4096 % 1048576) q2) := fun x u f => by
    rw [w2]; unfold walk2; rw [n2]
  clear w2
  obtain ⟨T2, hT2⟩ : ∃ T2, T2 = entV M T1 q1 / 4096 % 1048576 := ⟨_, rfl⟩
  rw [← hT2] at w3 n2 hl
  by_cases c7 : bt (entV M T2 q2 / 128) = true
  · refine Or.inr ⟨⟨entV M T2 q2 / 4096 % 1048576 + q3, ((true && bt (entV M root q0 / 2)) && bt (entV M T1 q1 / 2)) && bt (entV M T2 q2 / 2), ((true && bt (entV M root q0 / 4)) && bt (entV M T1 q1 / 4)) && bt (entV M T2 q2 / 4), ((true && !bt (entV M root q0 / 9223372036854775808)) && !bt (entV M T1 q1 / 9223372036854775808)) && !bt (entV M T2 q2 / 9223372036854775808), bt (entV M T2 q2 / 256), true, T2, q2, by rw [hl, if_pos c7]⟩, fun x u f => ⟨fun hm => ?_, fun hm => ?_⟩⟩
    · simp only at hm
      rw [w3]; unfold walk3 end3; rw [if_pos c7, if_neg (by rw [hm]; simp)]
      exact ⟨_, _, rfl⟩
    · simp only at hm
      obtain ⟨r, hr⟩ : ∃ r, walkW has M root addr x u f = r := ⟨_, rfl⟩
      rw [hr]
      rw [w3] at hr; unfold walk3 end3 at hr; rw [if_pos c7, if_pos hm] at hr
      subst hr
      have bd := ent_bd hM T2 q2
      have ob : ∀ b : Nat, b < 128 → 0 ≤ orb (entV M T2 q2) b ∧ orb (entV M T2 q2) b < 18446744073709551616 := fun b hb => orb_bd _ _ bd.1 bd.2 (by omega) (by omega)
      have k0 := lkm_mark hM (Lkm.refl M) root q0 32 (Or.inl rfl)
      have k1 := lkm_mark hM k0 T1 q1 32 (Or.inl rfl)
      have v0 := b5_mark hM root q0 T1 q1 32 (Or.inl rfl) (mark_first hM root q0)
      cases x with
      | true =>
        have k2 := lkm_mark hM k1 T2 q2 96 (Or.inr rfl)
        exact ⟨rfl, rfl, rfl, rfl, rfl, rfl, rfl, rfl, rfl, rfl, k2, ent_top _ T2 q2 _ (ob 96 (by omega)).1 (ob 96 (by omega)).2, by rw [hq0]; exact ⟨((k2 root q0).b0).symm.trans th.1, b5_mark hM root q0 T2 q2 96 (Or.inr rfl) v0, th.2⟩⟩
      | false =>
        have k2 := lkm_mark hM k1 T2 q2 32 (Or.inl rfl)
        exact ⟨rfl, rfl, rfl, rfl, rfl, rfl, rfl, rfl, rfl, rfl, k2, ent_top _ T2 q2 _ (ob 32 (by omega)).1 (ob 32 (by omega)).2, by rw [hq0]; exact ⟨((k2 root q0).b0).symm.trans th.1, b5_mark hM root q0 T2 q2 32 (Or.inl rfl) v0, th.2⟩⟩
  rcases bad_e has M (entV M T2 q2 / 4096 % 1048576) q3 1 with n3 | ⟨e, he, hb⟩
  rotate_left
  · refine Or.inl ⟨e, he, fun x u f => ?_⟩
    obtain ⟨a, c, hac⟩ := hb addr (codeV x u f)
    exact ⟨a, c, by rw [w3]; unfold walk3; rw [if_neg c7, hac]⟩
  have w4 : ∀ x u f, walkW has M root addr x u f = end4 M addr (codeV x u f) x u f (root * 4096 + q0 * 8) (entV M root q0) (T1 * 4096 + q1 * 8) (entV M T1 q1) (T2 * 4096 + q2 * 8) (entV M T2 q2) (entV M T2 q2 / 4096 % 1048576 * 4096 + q3 * 8) (entV M (entV M T2 q2 / 4096 % 1048576) q3) := fun x u f => by
    rw [w3]; unfold walk3; rw [if_neg c7, n3]
  clear w3
  obtain ⟨T3, hT3⟩ : ∃ T3, T3 = entV M T2 q2 / 4096 % 1048576 := ⟨_, rfl⟩
  rw [← hT3] at w4 n3 hl
  refine Or.inr ⟨⟨entV M T3 q3 / 4096 % 1048576, (((true && bt (entV M root q0 / 2)) && bt (entV M T1 q1 / 2)) && bt (entV M T2 q2 / 2)) && bt (entV M T3 q3 / 2), (((true && bt (entV M root q0 / 4)) && bt (entV M T1 q1 / 4)) && bt (entV M T2 q2 / 4)) && bt (entV M T3 q3 / 4), (((true && !bt (entV M root q0 / 9223372036854775808)) && !bt (entV M T1 q1 / 9223372036854775808)) && !bt (entV M T2 q2 / 9223372036854775808)) && !bt (entV M T3 q3 / 9223372036854775808), bt (entV M T3 q3 / 256), false, T3, q3, by rw [hl, if_neg c7]⟩, fun x u f => ⟨fun hm => ?_, fun hm => ?_⟩⟩
  · simp only at hm
    rw [w4]; unfold end4; rw [if_neg (by rw [hm]; simp)]
    exact ⟨_, _, rfl⟩
  · simp only at hm
    obtain ⟨r, hr⟩ : ∃ r, walkW has M root addr x u f = r := ⟨_, rfl⟩
    rw [hr]
    rw [w4] at hr; unfold end4 at hr; rw [if_pos hm] at hr
    subst hr
    have bd := ent_bd hM T3 q3
    have ob : ∀ b : Nat, b < 128 → 0 ≤ orb (entV M T3 q3) b ∧ orb (entV M T3 q3) b < 18446744073709551616 := fun b hb => orb_bd _ _ bd.1 bd.2 (by omega) (by omega)
    have k0 := lkm_mark hM (Lkm.refl M) root q0 32 (Or.inl rfl)
    have k1 := lkm_mark hM k0 T1 q1 32 (Or.inl rfl)
    have k2 := lkm_mark hM k1 T2 q2 32 (Or.inl rfl)
    have v0 := b5_mark hM root q0 T2 q2 32 (Or.inl rfl) (b5_mark hM root q0 T1 q1 32 (Or.inl rfl) (mark_first hM root q0))
    cases x with
    | true =>
      have k3 := lkm_mark hM k2 T3 q3 96 (Or.inr rfl)
      exact ⟨rfl, rfl, rfl, rfl, rfl, rfl, rfl, rfl, rfl, rfl, k3, ent_top _ T3 q3 _ (ob 96 (by omega)).1 (ob 96 (by omega)).2, by rw [hq0]; exact ⟨((k3 root q0).b0).symm.trans th.1, b5_mark hM root q0 T3 q3 96 (Or.inr rfl) v0, th.2⟩⟩
    | false =>
      have k3 := lkm_mark hM k2 T3 q3 32 (Or.inl rfl)
      exact ⟨rfl, rfl, rfl, rfl, rfl, rfl, rfl, rfl, rfl, rfl, k3, ent_top _ T3 q3 _ (ob 32 (by omega)).1 (ob 32 (by omega)).2, by rw [hq0]; exact ⟨((k3 root q0).b0).symm.trans th.1, b5_mark hM root q0 T3 q3 32 (Or.inl rfl) v0, th.2⟩⟩
/-! ### what follows -/
theorem WR.no_er (M : Int → Int) (a c e : Int) : (WR.no M a c e).er = e := rfl
theorem walk_lkm {M : Int → Int} (hM : ∀ t, 0 ≤ M t ∧ M t < 256) (has : Int → Bool) (root addr : Int) (x u f : Bool) : Lkm M (walkW has M root addr x u f).M := by
  rcases walk_core hM has root addr with ⟨e, he, hw⟩ | ⟨h, hw⟩
  · obtain ⟨a, c, q⟩ := hw x u f
    rw [q]; exact Lkm.refl M
  · cases hm : mayV h.pw h.pu h.px x u f with
    | false => obtain ⟨a, c, q⟩ := (hw x u f).1 hm; rw [q]; exact Lkm.refl M
    | true => exact ((hw x u f).2 hm).m
theorem walk_zero {M : Int → Int} (hM : ∀ t, 0 ≤ M t ∧ M t < 256) (has : Int → Bool) (root addr : Int) (x u f : Bool) (hn : (walkW has M root addr x u f).er ≠ 0) :
    (walkW has M root addr x u f).fr = 0 ∧ (walkW has M root addr x u f).pw = false ∧ (walkW has M root addr x u f).pu = false ∧ (walkW has M root addr x u f).px = false ∧ (walkW has M root addr x u f).g = false ∧ (walkW has M root addr x u f).l = false ∧ (walkW has M root addr x u f).d = false ∧ (walkW has M root addr x u f).M = M := by
  rcases walk_core hM has root addr with ⟨e, he, hw⟩ | ⟨h, hw⟩
  · obtain ⟨a, c, q⟩ := hw x u f
    rw [q]; exact ⟨rfl, rfl, rfl, rfl, rfl, rfl, rfl, rfl⟩
  · cases hm : mayV h.pw h.pu h.px x u f with
    | false => obtain ⟨a, c, q⟩ := (hw x u f).1 hm; rw [q]; exact ⟨rfl, rfl, rfl, rfl, rfl, rfl, rfl, rfl⟩
    | true => exact absurd ((hw x u f).2 hm).er hn
/-- whether it was written to, of a walk that found something -/
theorem walk_d {M : Int → Int} (hM : ∀ t, 0 ≤ M t ∧ M t < 256) (has : Int → Bool) (root addr : Int) (x u f : Bool) (he : (walkW has M root addr x u f).er = 0) :
    (walkW has M root addr x u f).d = (bt (entV M (lastTP M root addr).1 (lastTP M root addr).2 / 64) || x) ∧
    entV (walkW has M root addr x u f).M (lastTP M root addr).1 (lastTP M root addr).2 = orb (entV M (lastTP M root addr).1 (lastTP M root addr).2) (if x then 96 else 32) := by
  rcases walk_core hM has root addr with ⟨e, hne, hw⟩ | ⟨h, hw⟩
  · obtain ⟨a, c, q⟩ := hw x u f
    rw [q] at he; exact absurd he hne
  · cases hm : mayV h.pw h.pu h.px x u f with
    | false => obtain ⟨a, c, q⟩ := (hw x u f).1 hm; rw [q] at he; exact absurd he (by show (9 : Int) ≠ 0; omega)
    | true =>
      have k := (hw x u f).2 hm
      rw [← h.tp]
      exact ⟨k.d, k.e⟩
/-- the next walk to the same page with the same access finds the same -/
theorem again {M : Int → Int} (hM : ∀ t, 0 ≤ M t ∧ M t < 256) (root : Int) {a b : Int} (x u f : Bool) (hM' : ∀ t, 0 ≤ (walkW Has8 M root a x u f).M t ∧ (walkW Has8 M root a x u f).M t < 256) (hp : a / 4096 = b / 4096) (a0 : 0 ≤ a) (a1 : a < 18446744073709551616) (b0 : 0 ≤ b) (b1 : b < 18446744073709551616) :
    Sim a b (walkW Has8 M root a x u f) (walkW Has8 (walkW Has8 M root a x u f).M root b x u f) ∧ (walkW Has8 (walkW Has8 M root a x u f).M root b x u f).d = (walkW Has8 M root a x u f).d := by
  have lk := walk_lkm hM Has8 root a x u f
  have s := sim_walk lk Has8 root hp a0 a1 b0 b1 x u f
  refine ⟨s, ?_⟩
  by_cases he : (walkW Has8 M root a x u f).er = 0
  · have d1 := walk_d hM Has8 root a x u f he
    have d2 := walk_d hM' Has8 root b x u f (s.er.trans he)
    rw [d2.1, d1.1, last_lk lk root hp, d1.2]
    have bd := ent_bd hM (lastTP M root a).1 (lastTP M root a).2
    cases x with
    | true => simp
    | false => simp [orb_d32 _ bd.1 bd.2]
  · rw [(walk_zero hM' Has8 root b x u f (by rw [s.er]; exact he)).2.2.2.2.2.2.1, (walk_zero hM Has8 root a x u f he).2.2.2.2.2.2.1]
end Go.Proofs.YtaebihgegiddnaaDoor
namespace Go.Proofs.YtaebihgegiddnaaDoor
open Go.ChangeShapes Go.WideShapes Go.ChangeAt Go.RowKit Go.Maps
set_option linter.unusedSimpArgs false
set_option linter.unusedVariables false
set_option maxRecDepth 8000

/-- a bit is set where it isn't -/
def setB (v : Int) (k : Nat) : Int := if bt (v / 2 ^ k) = true then v else v + 2 ^ k
theorem nat_or_bit (n k : Nat) : n ||| 2 ^ k = if n / 2 ^ k % 2 = 1 then n else n + 2 ^ k := by
  have h1 := Nat.or_mod_two_pow (a := n) (b := 2 ^ k) (n := k)
  have h2 := Nat.or_div_two_pow (a := n) (b := 2 ^ k) (n := k)
  rw [Nat.mod_self, Nat.or_zero] at h1
  rw [Nat.div_self (Nat.two_pow_pos k)] at h2
  have o : ∀ m : Nat, m ||| 1 = if m % 2 = 1 then m else m + 1 := fun m => by
    have a1 := Nat.or_mod_two_pow (a := m) (b := 1) (n := 1)
    have a2 := Nat.or_div_two_pow (a := m) (b := 1) (n := 1)
    simp only [Nat.pow_one] at a1 a2
    rw [show 1 / 2 = 0 from rfl, Nat.or_zero] at a2
    have z : ∀ y : Nat, y < 2 → y ||| 1 % 2 = 1 := by decide
    rw [z _ (Nat.mod_lt _ (by omega))] at a1
    split <;> omega
  rw [o] at h2
  have d1 := Nat.div_add_mod (n ||| 2 ^ k) (2 ^ k)
  have d2 := Nat.div_add_mod n (2 ^ k)
  rw [h1, h2] at d1
  split
  · rename_i c
    rw [if_pos c] at d1
    omega
  · rename_i c
    rw [if_neg c, Nat.mul_add, Nat.mul_one] at d1
    omega
theorem set_or (v : Int) (k : Nat) (h0 : 0 ≤ v) (h1 : v < 18446744073709551616) (hk : k = 5 ∨ k = 6) : setB v k = orb v ((2 ^ k : Nat) : Int) := by
  have b : (2 : Nat) ^ k < 128 := by rcases hk with rfl | rfl <;> decide
  rw [orb_nat v (2 ^ k) h0 h1 b, nat_or_bit]
  unfold setB
  have e : bt (v / 2 ^ k) = decide (v.toNat / 2 ^ k % 2 = 1) := by
    unfold bt
    rcases hk with rfl | rfl
    · simp only [Int.reducePow, Nat.reducePow]
      rcases (show v / 32 % 2 = 0 ∨ v / 32 % 2 = 1 by omega) with h | h
      · rw [h]; symm; simp; omega
      · rw [h]; symm; simp; omega
    · simp only [Int.reducePow, Nat.reducePow]
      rcases (show v / 64 % 2 = 0 ∨ v / 64 % 2 = 1 by omega) with h | h
      · rw [h]; symm; simp; omega
      · rw [h]; symm; simp; omega
  rw [e]
  by_cases c : v.toNat / 2 ^ k % 2 = 1
  · rw [if_pos c, if_pos (by simp [c])]; omega
  · rw [if_neg c, if_neg (by simp [c])]
    rcases hk with rfl | rfl <;> (simp only [Int.reducePow, Nat.reducePow]; omega)
theorem orb_orb (v : Int) (a b : Nat) (h0 : 0 ≤ v) (h1 : v < 18446744073709551616) (ha : a < 128) (hb : b < 128) : orb (orb v a) b = orb v ((a ||| b : Nat) : Int) := by
  have l : v.toNat ||| a < 2 ^ 64 := Nat.or_lt_two_pow (by omega) (by omega)
  have lab : a ||| b < 2 ^ 7 := Nat.or_lt_two_pow (by omega) (by omega)
  rw [orb_nat v a h0 h1 ha, orb_nat _ b (by omega) (by omega) hb, orb_nat v (a ||| b) h0 h1 (by omega)]
  rw [Int.toNat_natCast, Nat.or_assoc]
/-- what the document stores at a place -/
def markR (v : Int) (last : Bool) : Int := if last = true then setB (setB v 5) 6 else setB v 5
theorem mark_or (v : Int) (last : Bool) (h0 : 0 ≤ v) (h1 : v < 18446744073709551616) : markR v last = orb v (if last then 96 else 32) := by
  unfold markR
  have e5 := set_or v 5 h0 h1 (Or.inl rfl)
  have b5 := orb_bd v ((2 ^ 5 : Nat) : Int) h0 h1 (by simp) (by simp)
  cases last with
  | false => simp only [Bool.false_eq_true, if_false]; rw [e5]; rfl
  | true =>
    simp only [if_true]
    rw [e5, set_or _ 6 b5.1 b5.2 (Or.inr rfl), orb_orb v _ _ h0 h1 (by decide) (by decide)]
    rfl
/-- each entry is as it was, or used -/
def Mk (M N : Int → Int) : Prop := ∀ T P : Int, entV N T P = entV M T P ∨ entV N T P = orb (entV M T P) 32
theorem Mk.refl (M : Int → Int) : Mk M M := fun _ _ => Or.inl rfl
/-- the document's next mark is the program's -/
theorem mk_same {M N : Int → Int} (hM : ∀ t, 0 ≤ M t ∧ M t < 256) (h : Mk M N) (T P : Int) (last : Bool) : markR (entV N T P) last = orb (entV M T P) (if last then 96 else 32) := by
  have bd := ent_bd hM T P
  have o32 := orb_bd (entV M T P) 32 bd.1 bd.2 (by omega) (by omega)
  rcases h T P with e | e
  · rw [e]; exact mark_or _ last bd.1 bd.2
  · rw [e, mark_or _ last o32.1 o32.2]
    have k : ∀ b : Nat, b < 128 → orb (orb (entV M T P) 32) b = orb (entV M T P) ((32 ||| b : Nat) : Int) := fun b hb => orb_orb (entV M T P) 32 b bd.1 bd.2 (by omega) hb
    cases last with
    | false => exact k 32 (by omega)
    | true => exact k 96 (by omega)
theorem mk_next {M N : Int → Int} (hM : ∀ t, 0 ≤ M t ∧ M t < 256) (h : Mk M N) (T0 P0 : Int) : Mk M (mset N (T0 * 4096 + P0 * 8) 8 (orb (entV M T0 P0) 32)) := by
  intro T P
  have bd := ent_bd hM T0 P0
  have ob := orb_bd (entV M T0 P0) 32 bd.1 bd.2 (by omega) (by omega)
  rw [show T0 * 4096 + P0 * 8 = 8 * (T0 * 512 + P0) by omega, ent_set N _ _ T P ob.1 ob.2]
  split
  · rename_i e
    right
    unfold entV; rw [show T * 4096 + P * 8 = T0 * 4096 + P0 * 8 by omega]
  · exact h T P
end Go.Proofs.YtaebihgegiddnaaDoor
namespace Go.Proofs.YtaebihgegiddnaaDoor
open Go.ChangeShapes Go.WideShapes Go.ChangeAt Go.RowKit Go.Maps
set_option linter.unusedSimpArgs false
set_option linter.unusedVariables false
set_option maxRecDepth 8000

/-- the place in a table of level L -/
def pL (addr : Int) (L : Nat) : Int := addr / 2 ^ (3 + 9 * L) % 512
/-- the bytes behind i marks -/
def marksN (M : Int → Int) (acc : List (Int × Int)) (x : Bool) : Nat → Int → Int
  | 0 => M
  | i + 1 => match acc[i]? with
    | some (T, P) => mset (marksN M acc x i) (T * 4096 + P * 8) 8 (orb (entV M T P) (if x && decide (i + 1 = acc.length) then 96 else 32))
    | none => marksN M acc x i
/-- the rights of all -/
def allW (M : Int → Int) : List (Int × Int) → Bool := fun acc => acc.foldl (fun b q => b && bt (entV M q.1 q.2 / 2)) true
def allU (M : Int → Int) : List (Int × Int) → Bool := fun acc => acc.foldl (fun b q => b && bt (entV M q.1 q.2 / 4)) true
def allX (M : Int → Int) : List (Int × Int) → Bool := fun acc => acc.foldl (fun b q => b && !bt (entV M q.1 q.2 / 9223372036854775808)) true
theorem allW_snoc (M : Int → Int) (acc : List (Int × Int)) (T P : Int) : allW M (acc ++ [(T, P)]) = (allW M acc && bt (entV M T P / 2)) := by simp [allW]
theorem allU_snoc (M : Int → Int) (acc : List (Int × Int)) (T P : Int) : allU M (acc ++ [(T, P)]) = (allU M acc && bt (entV M T P / 4)) := by simp [allU]
theorem allX_snoc (M : Int → Int) (acc : List (Int × Int)) (T P : Int) : allX M (acc ++ [(T, P)]) = (allX M acc && !bt (entV M T P / 9223372036854775808)) := by simp [allX]
/-- at the last entry -/
def endL (M : Int → Int) (addr cd : Int) (x u f : Bool) (acc : List (Int × Int)) (X : Int) (lg : Bool) : WR :=
  if mayV (allW M acc) (allU M acc) (allX M acc) x u f = true then
    ⟨0, 0, 0, X / 4096 % 1048576 + (if lg then pL addr 1 else 0), allW M acc, allU M acc, allX M acc, bt (X / 256), lg, bt (X / 64) || x, marksN M acc x acc.length⟩
  else WR.no M addr (cd + 1) 9
/-- the rest of a walk at level L -/
def restW (has : Int → Bool) (M : Int → Int) (addr cd : Int) (x u f : Bool) : Nat → Int → List (Int × Int) → WR
  | 0, _, _ => WR.no M 0 0 0
  | L + 1, T, acc =>
    match badV has M T (pL addr (L + 1)) ((L + 1 : Nat) : Int) addr cd with
    | some (a, c, e) => WR.no M a c e
    | none =>
      if L = 0 ∨ (L = 1 ∧ bt (entV M T (pL addr (L + 1)) / 128) = true) then endL M addr cd x u f (acc ++ [(T, pL addr (L + 1))]) (entV M T (pL addr (L + 1))) (decide (L = 1))
      else restW has M addr cd x u f L (entV M T (pL addr (L + 1)) / 4096 % 1048576) (acc ++ [(T, pL addr (L + 1))])
theorem pL_4 (addr : Int) : pL addr 4 = addr / 4096 / 512 / 512 / 512 % 512 := by unfold pL; simp only [Nat.reduceMul, Nat.reduceAdd, Int.reducePow]; omega
theorem pL_3 (addr : Int) : pL addr 3 = addr / 4096 / 512 / 512 % 512 := by unfold pL; simp only [Nat.reduceMul, Nat.reduceAdd, Int.reducePow]; omega
theorem pL_2 (addr : Int) : pL addr 2 = addr / 4096 / 512 % 512 := by unfold pL; simp only [Nat.reduceMul, Nat.reduceAdd, Int.reducePow]; omega
theorem pL_1 (addr : Int) : pL addr 1 = addr / 4096 % 512 := by unfold pL; simp only [Nat.reduceMul, Nat.reduceAdd, Int.reducePow]
/-- the document's way is the program's -/
theorem rest_is (has : Int → Bool) (M : Int → Int) (root addr : Int) (x u f : Bool) (h1 : ext addr = addr) (h2 : has root = true) :
    walkW has M root addr x u f = restW has M addr (codeV x u f) x u f 4 root [] := by
  unfold walkW
  rw [if_neg (by simp [h1]), if_neg (by simp [h2]), ← pL_4, ← pL_3, ← pL_2, ← pL_1]
  unfold walk0
  rw [restW]
  rw [show (((3 + 1 : Nat)) : Int) = 4 from rfl]
  cases b0 : badV has M root (pL addr 4) 4 addr (codeV x u f) with
  | some q => obtain ⟨a, c, e⟩ := q; rfl
  | none =>
    simp only
    rw [if_neg (by omega)]
    unfold walk1
    rw [restW, show (((2 + 1 : Nat)) : Int) = 3 from rfl]
    cases b1 : badV has M (entV M root (pL addr 4) / 4096 % 1048576) (pL addr 3) 3 addr (codeV x u f) with
    | some q => obtain ⟨a, c, e⟩ := q; rfl
    | none =>
      simp only
      rw [if_neg (by omega)]
      unfold walk2
      rw [restW, show (((1 + 1 : Nat)) : Int) = 2 from rfl]
      generalize hT1 : entV M root (pL addr 4) / 4096 % 1048576 = T1
      generalize hT2 : entV M T1 (pL addr 3) / 4096 % 1048576 = T2
      cases b2 : badV has M T2 (pL addr 2) 2 addr (codeV x u f) with
      | some q => obtain ⟨a, c, e⟩ := q; rfl
      | none =>
        simp only
        unfold walk3
        by_cases c7 : bt (entV M T2 (pL addr 2) / 128) = true
        · rw [if_pos c7, if_pos (Or.inr ⟨trivial, c7⟩)]
          unfold end3 endL
          by_cases m : mayV (allW M ([] ++ [(root, pL addr 4)] ++ [(T1, pL addr 3)] ++ [(T2, pL addr 2)])) (allU M ([] ++ [(root, pL addr 4)] ++ [(T1, pL addr 3)] ++ [(T2, pL addr 2)])) (allX M ([] ++ [(root, pL addr 4)] ++ [(T1, pL addr 3)] ++ [(T2, pL addr 2)])) x u f = true
          · refine Eq.trans (if_pos m) (Eq.symm (Eq.trans (if_pos m) ?_))
            have e : marksN M [(root, pL addr 4), (T1, pL addr 3), (T2, pL addr 2)] x 3 = mset (mset (mset M (root * 4096 + pL addr 4 * 8) 8 (orb (entV M root (pL addr 4)) 32)) (T1 * 4096 + pL addr 3 * 8) 8 (orb (entV M T1 (pL addr 3)) 32)) (T2 * 4096 + pL addr 2 * 8) 8 (orb (entV M T2 (pL addr 2)) (if x then 96 else 32)) := by cases x <;> rfl
            simp only [allW, allU, allX, List.nil_append, List.cons_append, List.foldl_cons, List.foldl_nil, List.length_cons, List.length_nil, Nat.reduceAdd]
            rw [e]; simp
          · exact Eq.trans (if_neg m) (Eq.symm (if_neg m))
        · rw [if_neg c7, if_neg (by simp [c7])]
          rw [restW, show (((0 + 1 : Nat)) : Int) = 1 from rfl]
          generalize hT3 : entV M T2 (pL addr 2) / 4096 % 1048576 = T3
          cases b3 : badV has M T3 (pL addr 1) 1 addr (codeV x u f) with
          | some q => obtain ⟨a, c, e⟩ := q; rfl
          | none =>
            simp only
            rw [if_pos (Or.inl trivial)]
            unfold end4 endL
            by_cases m : mayV (allW M ([] ++ [(root, pL addr 4)] ++ [(T1, pL addr 3)] ++ [(T2, pL addr 2)] ++ [(T3, pL addr 1)])) (allU M ([] ++ [(root, pL addr 4)] ++ [(T1, pL addr 3)] ++ [(T2, pL addr 2)] ++ [(T3, pL addr 1)])) (allX M ([] ++ [(root, pL addr 4)] ++ [(T1, pL addr 3)] ++ [(T2, pL addr 2)] ++ [(T3, pL addr 1)])) x u f = true
            · refine Eq.trans (if_pos m) (Eq.symm (Eq.trans (if_pos m) ?_))
              have e : marksN M [(root, pL addr 4), (T1, pL addr 3), (T2, pL addr 2), (T3, pL addr 1)] x 4 = mset (mset (mset (mset M (root * 4096 + pL addr 4 * 8) 8 (orb (entV M root (pL addr 4)) 32)) (T1 * 4096 + pL addr 3 * 8) 8 (orb (entV M T1 (pL addr 3)) 32)) (T2 * 4096 + pL addr 2 * 8) 8 (orb (entV M T2 (pL addr 2)) 32)) (T3 * 4096 + pL addr 1 * 8) 8 (orb (entV M T3 (pL addr 1)) (if x then 96 else 32)) := by cases x <;> rfl
              simp only [allW, allU, allX, List.nil_append, List.cons_append, List.foldl_cons, List.foldl_nil, List.length_cons, List.length_nil, Nat.reduceAdd]
              rw [e]; simp
            · exact Eq.trans (if_neg m) (Eq.symm (if_neg m))
end Go.Proofs.YtaebihgegiddnaaDoor
namespace Go.Proofs.YtaebihgegiddnaaDoor
open Go.ChangeShapes Go.WideShapes Go.ChangeAt Go.RowKit Go.Maps
set_option linter.unusedSimpArgs false
set_option linter.unusedVariables false
set_option maxRecDepth 8000

/-- a step that comes in -/
structure Sp where
  rt : Int
  ad : Int
  x : Bool
  u : Bool
  f : Bool
abbrev Sp.val (s : Sp) : Value := .agg #[.int .i64 s.rt, .int .u64 s.ad, .bool s.x, .bool s.u, .bool s.f]
theorem cellsSp : Tryd.prog.cellsOf 36 = 5 := by kernel_rfl
theorem step_cells {H : Type} {enc : TypeId × Value → H} {W : World} {base : Nat} {sp : Nat → Bool} {held : Bool} {x : DataW H} {ps : List MemPlace} {fuel : Nat} {cs : List Value} (hf : DataW.trod enc Tryd.prog W base sp held fuel 36 cs = some (x, ps)) (hl : cs.length = 5) :
    ∃ (a0 : Int) (a1 : Int) (a2 : Bool) (a3 : Bool) (a4 : Bool), cs = [.int .i64 a0, .int .u64 a1, .bool a2, .bool a3, .bool a4] ∧ (Lit.int .i64 a0).wf = true ∧ (Lit.int .u64 a1).wf = true ∧ True := by
  obtain ⟨c0, c1, c2, c3, c4, hcs⟩ : ∃ c0 c1 c2 c3 c4, cs = [c0, c1, c2, c3, c4] := by
    revert hl
    match cs with
    | [c0, c1, c2, c3, c4] => intro _; exact ⟨c0, c1, c2, c3, c4, rfl⟩
    | [] => intro q; cases q
    | [_] => intro q; cases q
    | [_, _] => intro q; cases q
    | [_, _, _] => intro q; cases q
    | [_, _, _, _] => intro q; cases q
    | _ :: _ :: _ :: _ :: _ :: _ :: _ => intro q; simp at q
  subst hcs
  obtain ⟨zs, m, _, _, jl, jlen, jf⟩ := DataW.trod_struct Tryd.underlying36 hf
  have jg : ∀ i, i < 3 → ∃ y, zs[i]? = some y := fun i hi => ⟨_, List.getElem?_eq_getElem (by rw [jlen]; exact hi)⟩
  obtain ⟨⟨z0a, z0b⟩, m0⟩ := jg 0 (by omega)
  obtain ⟨b0, e0, _, w0⟩ := DataW.trod_int Tryd.underlying3 ((jf 0 _ rfl).trans m0)
  obtain rfl := cell_of cellsI e0 (c := c0) (by first | rfl | (rw [cellsI]; rfl))
  obtain ⟨⟨z1a, z1b⟩, m1⟩ := jg 1 (by omega)
  obtain ⟨b1, e1, _, w1⟩ := DataW.trod_int Tryd.underlying32 ((jf 1 _ rfl).trans m1)
  obtain rfl := cell_of cellsU e1 (c := c1) (by first | rfl | (rw [cellsU]; rfl))
  obtain ⟨⟨z2a, z2b⟩, m2⟩ := jg 2 (by omega)
  obtain ⟨b2, b3, b4, q2, _⟩ := acc_cells (show DataW.trod enc Tryd.prog W base sp held _ 34 [c2, c3, c4] = some (z2a, z2b) from (jf 2 _ rfl).trans m2) rfl
  simp only [List.cons.injEq, and_true] at q2
  obtain ⟨rfl, rfl, rfl⟩ := q2
  exact ⟨_, _, _, _, _, rfl, w0, w1, trivial⟩
theorem open_step {H : Type} {enc : TypeId × Value → H} {W : World} {base : Nat} {sp : Nat → Bool} {held : Bool} {r : Reach} {b0 : Nat} {v : Value} {x : DataW H} {ps : List MemPlace}
    (hv : Value.okWide Tryd.prog W r b0 36 v) (h : DataW.Trod enc Tryd.prog W base sp held 36 v x ps) : ∃ s : Sp, v = s.val ∧ (Lit.int .i64 (s.rt)).wf = true ∧ (Lit.int .u64 (s.ad)).wf = true ∧ True := by
  obtain ⟨cs, rfl, hsz⟩ := okWide_struct Tryd.underlying36 hv
  obtain ⟨fuel, hf⟩ := h
  have hf2 : DataW.trod enc Tryd.prog W base sp held fuel 36 cs.toList = some (x, ps) := hf
  obtain ⟨a0, a1, a2, a3, a4, e, w0, w1, _⟩ := step_cells hf2 (by rw [Array.length_toList]; exact hsz.trans cellsSp)
  refine ⟨⟨a0, a1, a2, a3, a4⟩, ?_, w0, w1, trivial⟩
  show Value.agg cs = Value.agg _
  rw [← Array.toArray_toList (xs := cs), e]
theorem IsPuts.below {w w' : World} {p : Option Addr} {n : Nat} {A : Nat → Pt} (h : IsPuts w p n A) (hb : Below w.heap.size w w') : IsPuts w' p n A := fun i hi => by
  obtain ⟨b, o, e, l, c0, c1, c2, wf⟩ := h i hi
  exact ⟨b, o, e, Nat.lt_of_lt_of_le l hb.size, (hb.cell (p := ⟨b, _, none⟩) l).trans c0, (hb.cell (p := ⟨b, _, none⟩) l).trans c1, (hb.cell (p := ⟨b, _, none⟩) l).trans c2, wf⟩
theorem Play.box1 {w W : World} {K : Nat → Prop} {S : List Nat} {rb : Nat} {F : Int} {hs : List (Int × Int)} {g cap mbx xb : Nat} {M M2 : Int → Int} {n m : Nat} (h : Play w W K S rb F hs g cap mbx xb M M2 n m) (o : Obj) : ∃ K' : Nat → Prop, (∀ j, K j → K' j) ∧ K' W.heap.size ∧ Play w (W.alloc o) K' S rb F hs g cap mbx xb M M2 n m :=
  ⟨fun j => K j ∨ j = W.heap.size, fun j hj => Or.inl hj, Or.inr rfl, h.add o⟩
theorem Play.box2 {w W : World} {K : Nat → Prop} {S : List Nat} {rb : Nat} {F : Int} {hs : List (Int × Int)} {g cap mbx xb : Nat} {M M2 : Int → Int} {n m : Nat} (h : Play w W K S rb F hs g cap mbx xb M M2 n m) (o1 o2 : Obj) : ∃ K' : Nat → Prop, (∀ j, K j → K' j) ∧ K' W.heap.size ∧ K' (W.heap.size + 1) ∧ Play w ((W.alloc o1).alloc o2) K' S rb F hs g cap mbx xb M M2 n m :=
  ⟨fun j => (K j ∨ j = W.heap.size) ∨ j = (W.alloc o1).heap.size, fun j hj => Or.inl (Or.inl hj), Or.inl (Or.inr rfl), Or.inr (by rw [World.size_alloc]), (h.add o1).add o2⟩
theorem made_2 (w : World) (C D : List Value) (t s : TypeId) : Blk ((w.alloc (.cells C.toArray t)).alloc (.cells D.toArray s)) w.heap.size C t ∧ Blk ((w.alloc (.cells C.toArray t)).alloc (.cells D.toArray s)) (w.heap.size + 1) D s := by
  have h := Blk.made (w.alloc (.cells C.toArray t)) D s
  rw [World.size_alloc] at h
  exact ⟨(Blk.made w C t).below (Go.Joins.below_alloc1 _ _), h⟩
theorem eqBw (d : Nat) (a b : Bool) (W : World) : (Op.equalIn (d + 1) 4 (.bool a) (.bool b)).run Tryd.prog W = .ok (a == b) W := run_equalIn_bool W d _ a b Tryd.underlying4
theorem eqPm (d : Nat) (a b c a' b' c' : Bool) (W : World) : (Op.equalIn (d + 2) 38 (.agg #[.bool a, .bool b, .bool c]) (.agg #[.bool a', .bool b', .bool c'])).run Tryd.prog W = .ok (a == a' && (b == b' && c == c')) W := by
  rw [run_equalIn_struct W (d + 1) 38 _ _ (by kernel_rfl) (by kernel_rfl)]
  have p0 : ∀ (x y z : Value) (W : World), (part 4 #[x, y, z] 0).run Tryd.prog W = .ok x W := fun x y z W => by kernel_rfl
  have p1 : ∀ (x y z : Value) (W : World), (part 4 #[x, y, z] 1).run Tryd.prog W = .ok y W := fun x y z W => by kernel_rfl
  have p2 : ∀ (x y z : Value) (W : World), (part 4 #[x, y, z] 2).run Tryd.prog W = .ok z W := fun x y z W => by kernel_rfl
  simp only [Program.fieldsOf, Tryd.underlying38]
  simp [Op.eqFields, p0, p1, p2, eqBw]
  cases a <;> cases a' <;> cases b <;> cases b' <;> cases c <;> cases c' <;> simp
/-- what is found -/
structure Fd where
  fr : Int
  pw : Bool
  pu : Bool
  px : Bool
  g : Bool
  l : Bool
  d : Bool
deriving DecidableEq
abbrev Fd.val (s : Fd) : Value := .agg #[.int .i64 s.fr, .bool s.pw, .bool s.pu, .bool s.px, .bool s.g, .bool s.l, .bool s.d]
theorem qf0 (x0 x1 x2 x3 x4 x5 x6 : Value) (W : World) : (part 3 #[x0, x1, x2, x3, x4, x5, x6] 0).run Tryd.prog W = .ok x0 W := by kernel_rfl
theorem qf1 (x0 x1 x2 x3 x4 x5 x6 : Value) (W : World) : (part 38 #[x0, x1, x2, x3, x4, x5, x6] 1).run Tryd.prog W = .ok (.agg #[x1, x2, x3]) W := by kernel_rfl
theorem qf4 (x0 x1 x2 x3 x4 x5 x6 : Value) (W : World) : (part 4 #[x0, x1, x2, x3, x4, x5, x6] 4).run Tryd.prog W = .ok x4 W := by kernel_rfl
theorem qf5 (x0 x1 x2 x3 x4 x5 x6 : Value) (W : World) : (part 4 #[x0, x1, x2, x3, x4, x5, x6] 5).run Tryd.prog W = .ok x5 W := by kernel_rfl
theorem qf6 (x0 x1 x2 x3 x4 x5 x6 : Value) (W : World) : (part 4 #[x0, x1, x2, x3, x4, x5, x6] 6).run Tryd.prog W = .ok x6 W := by kernel_rfl
set_option maxHeartbeats 1000000 in
theorem equalFd (d : Nat) (c c' : Fd) (W : World) : (Op.equalIn (d + 3) 40 c.val c'.val).run Tryd.prog W = .ok (decide (c = c')) W := by
  rw [run_equalIn_struct W (d + 2) 40 _ _ (by kernel_rfl) (by kernel_rfl)]
  simp only [Program.fieldsOf, Tryd.underlying40]
  simp [Op.eqFields, qf0, qf1, qf4, qf5, qf6, eqIw, eqBw, eqPm]
  by_cases e : c = c'
  · subst e
    simp
  · rw [decide_eq_false e]
    obtain ⟨c0, c1, c2, c3, c4, c5, c6⟩ := c
    obtain ⟨d0, d1, d2, d3, d4, d5, d6⟩ := c'
    simp only [Fd.mk.injEq, not_and] at e
    simp only
    repeat (first | rfl | (split; (first | rfl | skip)))
    all_goals simp_all
theorem eqFd (c c' : Fd) (W : World) : (binOp .eql 40 c.val c'.val).run Tryd.prog W = .ok (.bool (decide (c = c'))) W := by
  have := equalFd 9997 c c' W
  simp only [binOp, Op.equal, Sem.run_bind]
  rw [show Op.maxDepth = 9997 + 3 from rfl, this]; rfl
theorem neFd (c c' : Fd) (W : World) : (binOp .neq 40 c.val c'.val).run Tryd.prog W = .ok (.bool (!decide (c = c'))) W := by
  have := equalFd 9997 c c' W
  simp only [binOp, Op.equal, Sem.run_bind]
  rw [show Op.maxDepth = 9997 + 3 from rfl, this]; rfl
theorem eqPerm (a b c a' b' c' : Bool) (W : World) : (binOp .eql 38 (.agg #[.bool a, .bool b, .bool c]) (.agg #[.bool a', .bool b', .bool c'])).run Tryd.prog W = .ok (.bool (a == a' && (b == b' && c == c'))) W := by
  have := eqPm 9998 a b c a' b' c' W
  simp only [binOp, Op.equal, Sem.run_bind]
  rw [show Op.maxDepth = 9998 + 2 from rfl, this]; rfl
end Go.Proofs.YtaebihgegiddnaaDoor
namespace Go.Proofs.YtaebihgegiddnaaDoor
open Go.ChangeShapes Go.WideShapes Go.ChangeAt Go.RowKit Go.Maps
set_option linter.unusedSimpArgs false
set_option linter.unusedVariables false
set_option maxRecDepth 8000

theorem none_below {w w' : World} (h : w.grownBy w' none) : Below w.heap.size w w' := ⟨h.os, h.tape, h.output, h.size, fun k hk => h.block k hk (by simp)⟩
set_option maxHeartbeats 8000000 in
theorem same_any {w0 W : World} {K : Nat → Prop} {S : List Nat} {rb g mb xb nn mm0 : Nat} {M : Int → Int} (h : Play w0 W K S rb 8 [(7, 8)] g 1 mb xb M M nn mm0) (p : Option Addr) (n c : Nat) (A : Nat → Pt) (hn : n ≤ maxLen) (hA : IsPuts W p n A) :
    Calls Tryd.prog 9 #[.pointer (some ⟨rb, 0, none⟩), .agg #[.int .i64 8, .slice (some ⟨g, 0, none⟩) 1 1, .map (some mb)], .slice p n c] W fun e w' => e = .returned (.int .i64 0) ∧ Below W.heap.size W w' := by
  have HA : Hid (IsPuts W p n A) := hA
  have HP : Hid (Play w0 W K S rb 8 [(7, 8)] g 1 mb xb M M nn mm0) := h
  have hM : ∀ t, 0 ≤ M t ∧ M t < 256 := h.ram.ram.byte
  have HM : Hid (∀ t, 0 ≤ M t ∧ M t < 256) := hM
  clear hA h hM
  have mm : (n : Int) ≤ 9223372036854775807 := by have : maxLen ≤ 9223372036854775807 := by decide +kernel
                                                  omega
  have XB : Hid (Blk (W.alloc (.cells #[.int .i64 8, .slice (some ⟨g, 0, none⟩) 1 1, .map (some mb)] 28)) W.heap.size [.int .i64 8, .slice (some ⟨g, 0, none⟩) 1 1, .map (some mb)] 28) := Blk.made W _ _
  have BB : Hid (Below W.heap.size W (W.alloc (.cells #[.int .i64 8, .slice (some ⟨g, 0, none⟩) 1 1, .map (some mb)] 28))) := Go.Joins.below_alloc1 _ _
  go_enter Tryd.func9, Tryd.ntmps9
  go_wp2_with fail
  go_loopw [7] (fun v V => ∃ (k : Nat), k ≤ n ∧ k ≤ 40 ∧ v = .int .i64 k ∧ Hid (Below W.heap.size W V) ∧ Hid (Blk V W.heap.size [.int .i64 8, .slice (some ⟨g, 0, none⟩) 1 1, .map (some mb)] 28)) (fun v _ => 40 - (intOf v).toNat)
  case atStart => exact ⟨0, by omega, by omega, rfl, BB, XB⟩
  case round =>
    clear XB BB
    obtain ⟨k, hk, hk4, rfl, hB, hX⟩ := hrel
    by_cases hlt : k < n
    rotate_left
    · have hd : decide ((k : Int) < (n : Int)) = false := by simp; omega
      go_wp2_with fail
      go_ret
      exact ⟨rfl, hB.out⟩
    have hd : decide ((k : Int) < (n : Int)) = true := by simp; omega
    by_cases hl4 : k < 40
    rotate_left
    · have hd2 : decide ((k : Int) < 40) = false := by simp; omega
      go_wp2_with fail
      go_ret
      exact ⟨rfl, hB.out⟩
    have hd2 : decide ((k : Int) < 40) = true := by simp; omega
    have hd0 : decide ((k : Int) < 0) = false := by simp
    obtain ⟨bq, oq, rfl, lq, y0, y1, y2, gx⟩ := HA.out k hlt
    have z0 : wr.cell? ⟨bq, oq + k * 3, none⟩ = some (.int .i64 (A k).fr) := (World.cell?_of_block (hB.out.block bq lq)).trans y0
    have z1 : wr.cell? ⟨bq, oq + k * 3 + 1, none⟩ = some (.int .i64 (A k).at') := (World.cell?_of_block (hB.out.block bq lq)).trans y1
    have z2 : wr.cell? ⟨bq, oq + k * 3 + 2, none⟩ = some (.int .u64 (A k).x) := (World.cell?_of_block (hB.out.block bq lq)).trans y2
    have lq2 : bq < wr.heap.size := Nat.lt_of_lt_of_le lq hB.out.size
    clear y0 y1 y2
    generalize A k = pt at z0 z1 z2 gx
    obtain ⟨fr, a, x⟩ := pt
    simp only at z0 z1 z2 gx
    have BA : Hid (Below W.heap.size W (wr.alloc (.cells #[.int .i64 fr, .int .i64 a, .int .u64 x] 69))) := below_new hB.out _
    have XA : Hid (Blk (wr.alloc (.cells #[.int .i64 fr, .int .i64 a, .int .u64 x] 69)) W.heap.size [.int .i64 8, .slice (some ⟨g, 0, none⟩) 1 1, .map (some mb)] 28) := Blk.below hX.out (Go.Joins.below_alloc1 _ _)
    by_cases g0 : fr < 0
    · skip
      have d0 : decide (fr < 0) = true := decide_eq_true g0
      clear hX hB HA HP
      go_wp2_with fail
      go_roundw
      case rel => exact ⟨k + 1, by omega, by omega, by go_num, BA, XA⟩
      case measure => simp [intOf]; omega
    by_cases g1 : 6 < fr
    · skip
      have d0 : decide (fr < 0) = false := decide_eq_false g0
      have d1 : decide (6 < fr) = true := decide_eq_true g1
      clear hX hB HA HP
      go_wp2_with fail
      go_roundw
      case rel => exact ⟨k + 1, by omega, by omega, by go_num, BA, XA⟩
      case measure => simp [intOf]; omega
    by_cases g2 : a < 0
    · skip
      have d0 : decide (fr < 0) = false := decide_eq_false g0
      have d1 : decide (6 < fr) = false := decide_eq_false g1
      have d2 : decide (a < 0) = true := decide_eq_true g2
      clear hX hB HA HP
      go_wp2_with fail
      go_roundw
      case rel => exact ⟨k + 1, by omega, by omega, by go_num, BA, XA⟩
      case measure => simp [intOf]; omega
    by_cases g3 : 511 < a
    · skip
      have d0 : decide (fr < 0) = false := decide_eq_false g0
      have d1 : decide (6 < fr) = false := decide_eq_false g1
      have d2 : decide (a < 0) = false := decide_eq_false g2
      have d3 : decide (511 < a) = true := decide_eq_true g3
      clear hX hB HA HP
      go_wp2_with fail
      go_roundw
      case rel => exact ⟨k + 1, by omega, by omega, by go_num, BA, XA⟩
      case measure => simp [intOf]; omega
    have d0 : decide (fr < 0) = false := decide_eq_false g0
    have d1 : decide (6 < fr) = false := decide_eq_false g1
    have d2 : decide (a < 0) = false := decide_eq_false g2
    have d3 : decide (511 < a) = false := decide_eq_false g3
    have u1 : IntKind.u64.wrap fr = fr := by rw [IntKind.wrap_u64]; omega
    have u2 : IntKind.u64.wrap (fr * 4096) = fr * 4096 := by rw [IntKind.wrap_u64]; omega
    have u3 : IntKind.i64.wrap (8 * a) = 8 * a := by rw [IntKind.wrap_i64]; omega
    have u3' : wrap64 (8 * a) = 8 * a := by simp only [wrap64]; omega
    have u4 : IntKind.u64.wrap (8 * a) = 8 * a := by rw [IntKind.wrap_u64]; omega
    have u5 : IntKind.u64.wrap (fr * 4096 + 8 * a) = fr * 4096 + 8 * a := by rw [IntKind.wrap_u64]; omega
    have CK := chk_lay (f := fr) (a := a) (by omega) (by omega)
    rw [if_neg (by omega)] at CK
    obtain ⟨v, hv⟩ : ∃ v, v = ld M (fr * 4096 + 8 * a) 8 := ⟨_, rfl⟩
    have LK : Hid (Calls Tryd.prog 35 #[.pointer (some ⟨rb, 0, none⟩), .int .u64 (fr * 4096 + 8 * a), .int .i64 8] (wr.alloc (.cells #[.int .i64 fr, .int .i64 a, .int .u64 x] 69)) fun e w' => e = .returned (.tuple #[.int .u64 v, .int .i64 0]) ∧ (wr.alloc (.cells #[.int .i64 fr, .int .i64 a, .int .u64 x] 69)).grownBy w' none) := load_okG (HP.out.grow (below_g0 BA.out)).ram.ram.ram _ 8 v (by omega) (by omega) CK hv.symm
    have RK : Hid (∀ V : World, Below W.heap.size W V → Calls Tryd.prog 29 #[.agg #[.int .i64 8, .slice (some ⟨g, 0, none⟩) 1 1, .map (some mb)], .int .u64 (fr * 4096 + 8 * a), .int .i64 8] V fun e w' => e = .returned (.int .u64 v) ∧ Below V.heap.size V w') := fun V hb => by
      rw [hv]; exact rload_any 8 _ mb mm0 M (fr * 4096 + 8 * a) 8 (by omega) (by omega) (by omega) V (HP.out.grow (below_g0 hb)).mem rfl HM.out
    clear CK hv hX hB HA HP HM
    go_wp2_with fail
    refine LK.out.mono ?_
    rintro e q1 ⟨rfl, hg⟩
    have B1 : Hid (Below W.heap.size W q1) := below_next BA.out (none_below hg)
    have X1 : Hid (Blk q1 W.heap.size [.int .i64 8, .slice (some ⟨g, 0, none⟩) 1 1, .map (some mb)] 28) := Blk.below XA.out (none_below hg)
    have c0 : q1.cell? ⟨W.heap.size, 0, none⟩ = some (.int .i64 8) := Blk.cell X1.out 0
    have c1 : q1.cell? ⟨W.heap.size, 1, none⟩ = some (.slice (some ⟨g, 0, none⟩) 1 1) := Blk.cell X1.out 1
    have c2 : q1.cell? ⟨W.heap.size, 2, none⟩ = some (.map (some mb)) := Blk.cell X1.out 2
    clear hg LK BA XA z0 z1 z2
    go_wp2_with fail
    refine (RK.out _ B1.out).mono ?_
    rintro e q2 ⟨rfl, hb⟩
    have B2 : Hid (Below W.heap.size W q2) := below_next B1.out hb
    have X2 : Hid (Blk q2 W.heap.size [.int .i64 8, .slice (some ⟨g, 0, none⟩) 1 1, .map (some mb)] 28) := Blk.below X1.out hb
    have vv : (v != v) = false := by simp
    clear hb RK B1 X1 c0 c1 c2
    go_wp2_with fail
    go_roundw
    case rel => exact ⟨k + 1, by omega, by omega, by go_num, B2, X2⟩
    case measure => simp [intOf]; omega
end Go.Proofs.YtaebihgegiddnaaDoor
