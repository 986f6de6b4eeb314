/- Walks of memories that are alike but for the marks. -/
import Derived.Test.YtkbkikbcpllknabDoorL7
namespace Go.Proofs.YtkbkikbcpllknabDoor
open Go.ChangeShapes Go.WideShapes Go.ChangeAt Go.RowKit Go.Maps
set_option linter.unusedSimpArgs false
set_option linter.unusedVariables false
set_option maxRecDepth 8000

/-- alike but for the marks -/
def Lk (X Y : Int) : Prop := X % 32 = Y % 32 ∧ X / 128 = Y / 128
def Lkm (M M' : Int → Int) : Prop := ∀ T P : Int, Lk (entV M T P) (entV M' T P)
theorem Lk.refl (X : Int) : Lk X X := ⟨rfl, rfl⟩
theorem Lk.symm {X Y : Int} (h : Lk X Y) : Lk Y X := ⟨h.1.symm, h.2.symm⟩
theorem Lk.trans {X Y Z : Int} (h : Lk X Y) (k : Lk Y Z) : Lk X Z := ⟨h.1.trans k.1, h.2.trans k.2⟩
theorem Lkm.refl (M : Int → Int) : Lkm M M := fun _ _ => Lk.refl _
theorem Lkm.symm {M M' : Int → Int} (h : Lkm M M') : Lkm M' M := fun T P => (h T P).symm
theorem Lkm.trans {M M' N : Int → Int} (h : Lkm M M') (k : Lkm M' N) : Lkm M N := fun T P => (h T P).trans (k T P)
theorem bt_eq {a b : Int} (h : a % 2 = b % 2) : bt a = bt b := by unfold bt; rw [h]
theorem Lk.b0 {X Y : Int} (h : Lk X Y) : bt X = bt Y := bt_eq (by have := h.1; omega)
theorem Lk.b1 {X Y : Int} (h : Lk X Y) : bt (X / 2) = bt (Y / 2) := bt_eq (by have := h.1; omega)
theorem Lk.b2 {X Y : Int} (h : Lk X Y) : bt (X / 4) = bt (Y / 4) := bt_eq (by have := h.1; omega)
theorem Lk.b7 {X Y : Int} (h : Lk X Y) : bt (X / 128) = bt (Y / 128) := by rw [h.2]
theorem Lk.b8 {X Y : Int} (h : Lk X Y) : bt (X / 256) = bt (Y / 256) := bt_eq (by have := h.2; omega)
theorem Lk.b63 {X Y : Int} (h : Lk X Y) : bt (X / 9223372036854775808) = bt (Y / 9223372036854775808) := bt_eq (by have := h.2; omega)
theorem Lk.fr {X Y : Int} (h : Lk X Y) : X / 4096 % 1048576 = Y / 4096 % 1048576 := by have := h.2; omega
theorem Lk.res {X Y : Int} (h : Lk X Y) (L : Int) : resV X L = resV Y L := by
  have e1 : X / 4294967296 % 1048576 = Y / 4294967296 % 1048576 := by have := h.2; omega
  have e2 : X / 4096 % 512 = Y / 4096 % 512 := by have := h.2; omega
  unfold resV
  rw [h.b0, h.b7, e1, e2]
/-! ### marks -/
theorem orb_nat (X : Int) (b : Nat) (h0 : 0 ≤ X) (h1 : X < 18446744073709551616) (hb : b < 128) : orb X b = ((X.toNat ||| b : Nat) : Int) := by
  unfold orb
  rw [u64_or X b h0 h1 (by omega) (by omega)]
  simp
theorem orb_lk (X : Int) (b : Nat) (h0 : 0 ≤ X) (h1 : X < 18446744073709551616) (hb : b = 32 ∨ b = 96) : Lk X (orb X b) := by
  rw [orb_nat X b h0 h1 (by omega)]
  have d : (X.toNat ||| b) / 2 ^ 7 = X.toNat / 2 ^ 7 := by
    rw [Nat.or_div_two_pow, Nat.div_eq_of_lt (show b < 2 ^ 7 by omega), Nat.or_zero]
  have m : (X.toNat ||| b) % 2 ^ 5 = X.toNat % 2 ^ 5 := by
    rw [Nat.or_mod_two_pow, show b % 2 ^ 5 = 0 by omega, Nat.or_zero]
  generalize X.toNat ||| b = Y at *
  exact ⟨by omega, by omega⟩
theorem orn_bit (n b k : Nat) : (n ||| b) / 2 ^ k % 2 = (n / 2 ^ k % 2) ||| (b / 2 ^ k % 2) := by
  rw [Nat.or_div_two_pow, show (2 : Nat) = 2 ^ 1 from rfl, Nat.or_mod_two_pow]
theorem orb_d32 (X : Int) (h0 : 0 ≤ X) (h1 : X < 18446744073709551616) : bt (orb X 32 / 64) = bt (X / 64) := by
  rw [show (32 : Int) = ((32 : Nat) : Int) from rfl, orb_nat X 32 h0 h1 (by omega)]
  have d := orn_bit X.toNat 32 6
  rw [show 32 / 2 ^ 6 % 2 = 0 from rfl, Nat.or_zero] at d
  generalize X.toNat ||| 32 = Y at *
  exact bt_eq (by omega)
theorem orb_d96 (X : Int) (h0 : 0 ≤ X) (h1 : X < 18446744073709551616) : bt (orb X 96 / 64) = true := by
  rw [show (96 : Int) = ((96 : Nat) : Int) from rfl, orb_nat X 96 h0 h1 (by omega)]
  have d := orn_bit X.toNat 96 6
  rw [show 96 / 2 ^ 6 % 2 = 1 from rfl] at d
  have o : ∀ z : Nat, z < 2 → z ||| 1 = 1 := by decide
  rw [o _ (Nat.mod_lt _ (by omega))] at d
  generalize X.toNat ||| 96 = Y at *
  unfold bt
  rw [show ((Y : Nat) : Int) / 64 % 2 = 1 by omega]; rfl
theorem orb_u (X : Int) (b : Nat) (h0 : 0 ≤ X) (h1 : X < 18446744073709551616) (hb : b < 128) : bt (orb X b / 32) = (bt (X / 32) || decide (b / 32 % 2 = 1)) := by
  rw [orb_nat X b h0 h1 hb]
  have d := orn_bit X.toNat b 5
  have o : ∀ y : Nat, y < 2 → ∀ z : Nat, z < 2 → (((y ||| z) == 1) = ((y == 1) || decide (z = 1))) := by decide
  have k := o (X.toNat / 2 ^ 5 % 2) (Nat.mod_lt _ (by omega)) (b / 2 ^ 5 % 2) (Nat.mod_lt _ (by omega))
  rw [← d] at k
  generalize X.toNat ||| b = Y at *
  have e1 : bt ((Y : Int) / 32) = (Y / 2 ^ 5 % 2 == 1) := by
    unfold bt
    rcases (show (Y / 32 % 2 = 0 ∨ Y / 32 % 2 = 1) by omega) with h | h
    · rw [show ((Y : Nat) : Int) / 32 % 2 = 0 by omega, show Y / 2 ^ 5 % 2 = 0 by omega]; rfl
    · rw [show ((Y : Nat) : Int) / 32 % 2 = 1 by omega, show Y / 2 ^ 5 % 2 = 1 by omega]; rfl
  have e2 : bt (X / 32) = (X.toNat / 2 ^ 5 % 2 == 1) := by
    unfold bt
    rcases (show (X.toNat / 32 % 2 = 0 ∨ X.toNat / 32 % 2 = 1) by omega) with h | h
    · rw [show X / 32 % 2 = 0 by omega, show X.toNat / 2 ^ 5 % 2 = 0 by omega]; rfl
    · rw [show X / 32 % 2 = 1 by omega, show X.toNat / 2 ^ 5 % 2 = 1 by omega]; rfl
  rw [e1, e2, k]
theorem ent_set (M : Int → Int) (q v T P : Int) (h0 : 0 ≤ v) (h1 : v < 18446744073709551616) : entV (mset M (8 * q) 8 v) T P = if T * 4096 + P * 8 = 8 * q then v else entV M T P := by
  unfold entV
  by_cases h : T * 4096 + P * 8 = 8 * q
  · rw [if_pos h, h]; exact ld_mset8 M (8 * q) v h0 h1
  · rw [if_neg h]
    exact ld_mset_apart M (by show _ ∨ _; simp only [show (8 : Int).toNat = 8 from rfl]; omega)
/-- one entry more is marked -/
theorem lkm_mark {M M1 : Int → Int} (hM : ∀ t, 0 ≤ M t ∧ M t < 256) (h : Lkm M M1) (T0 P0 : Int) (b : Nat) (hb : b = 32 ∨ b = 96) : Lkm M (mset M1 (T0 * 4096 + P0 * 8) 8 (orb (entV M T0 P0) b)) := by
  intro T P
  have bd := ent_bd hM T0 P0
  have ob := orb_bd (entV M T0 P0) b bd.1 bd.2 (by omega) (by omega)
  rw [show T0 * 4096 + P0 * 8 = 8 * (T0 * 512 + P0) by omega, ent_set M1 _ _ T P ob.1 ob.2]
  split
  · rename_i e
    have : entV M T P = entV M T0 P0 := by unfold entV; rw [show T * 4096 + P * 8 = T0 * 4096 + P0 * 8 by omega]
    rw [this]
    exact orb_lk _ b bd.1 bd.2 hb
  · exact h T P
/-! ### walks that are alike -/
structure Sim (addr addr' : Int) (r r' : WR) : Prop where
  er : r'.er = r.er
  fc : r'.fc = r.fc
  fr : r'.fr = r.fr
  pw : r'.pw = r.pw
  pu : r'.pu = r.pu
  px : r'.px = r.px
  g : r'.g = r.g
  l : r'.l = r.l
  fa : r.er = 9 → r.fa = addr ∧ r'.fa = addr'
theorem sim_no {addr addr' a a' c e : Int} (M M' : Int → Int) (h : e = 9 → a = addr ∧ a' = addr') : Sim addr addr' (WR.no M a c e) (WR.no M' a' c e) := ⟨rfl, rfl, rfl, rfl, rfl, rfl, rfl, rfl, h⟩
theorem sim_end3 {M M' : Int → Int} {addr addr' cd p3 A0 A1 A2 B0 B1 B2 X0 X1 X2 Y0 Y1 Y2 : Int} (x u f : Bool) (h0 : Lk X0 Y0) (h1 : Lk X1 Y1) (h2 : Lk X2 Y2) :
    Sim addr addr' (end3 M addr cd p3 x u f A0 X0 A1 X1 A2 X2) (end3 M' addr' cd p3 x u f B0 Y0 B1 Y1 B2 Y2) := by
  unfold end3
  rw [← h0.b1, ← h1.b1, ← h2.b1, ← h0.b2, ← h1.b2, ← h2.b2, ← h0.b63, ← h1.b63, ← h2.b63, ← h2.b8, ← h2.fr]
  split
  · exact ⟨rfl, rfl, rfl, rfl, rfl, rfl, rfl, rfl, fun h => by cases h⟩
  · exact sim_no M M' (fun _ => ⟨rfl, rfl⟩)
theorem sim_end4 {M M' : Int → Int} {addr addr' cd A0 A1 A2 A3 B0 B1 B2 B3 X0 X1 X2 X3 Y0 Y1 Y2 Y3 : Int} (x u f : Bool) (h0 : Lk X0 Y0) (h1 : Lk X1 Y1) (h2 : Lk X2 Y2) (h3 : Lk X3 Y3) :
    Sim addr addr' (end4 M addr cd x u f A0 X0 A1 X1 A2 X2 A3 X3) (end4 M' addr' cd x u f B0 Y0 B1 Y1 B2 Y2 B3 Y3) := by
  unfold end4
  rw [← h0.b1, ← h1.b1, ← h2.b1, ← h3.b1, ← h0.b2, ← h1.b2, ← h2.b2, ← h3.b2, ← h0.b63, ← h1.b63, ← h2.b63, ← h3.b63, ← h3.b8, ← h3.fr]
  split
  · exact ⟨rfl, rfl, rfl, rfl, rfl, rfl, rfl, rfl, fun h => by cases h⟩
  · exact sim_no M M' (fun _ => ⟨rfl, rfl⟩)
theorem bad_sim {M M' : Int → Int} (h : Lkm M M') (has : Int → Bool) (T P L ad ad' cd : Int) :
    (badV has M T P L ad cd = none ∧ badV has M' T P L ad' cd = none) ∨ ∃ a a' c e, badV has M T P L ad cd = some (a, c, e) ∧ badV has M' T P L ad' cd = some (a', c, e) ∧ (e = 9 → a = ad ∧ a' = ad') := by
  unfold badV
  rw [← (h T P).b0, ← (h T P).res L]
  by_cases c1 : chkG has (T * 4096 + P * 8) 8 ≠ 0
  · rw [if_pos c1, if_pos c1]
    refine Or.inr ⟨0, 0, 0, _, rfl, rfl, fun h9 => ?_⟩
    exfalso
    unfold chkG at h9 c1
    rw [if_pos (by omega)] at h9
    split at h9 <;> omega
  · rw [if_neg c1, if_neg c1]
    by_cases c2 : bt (entV M T P) = false
    · rw [if_pos c2, if_pos c2]
      exact Or.inr ⟨ad, ad', cd, 9, rfl, rfl, fun _ => ⟨rfl, rfl⟩⟩
    · rw [if_neg c2, if_neg c2]
      by_cases c3 : resV (entV M T P) L = true
      · rw [if_pos c3, if_pos c3]
        exact Or.inr ⟨ad, ad', cd + 9, 9, rfl, rfl, fun _ => ⟨rfl, rfl⟩⟩
      · rw [if_neg c3, if_neg c3]
        exact Or.inl ⟨rfl, rfl⟩
theorem sim_walk3 {M M' : Int → Int} (h : Lkm M M') (has : Int → Bool) {addr addr' cd p3 A0 A1 A2 B0 B1 B2 X0 X1 X2 Y0 Y1 Y2 : Int} (x u f : Bool) (h0 : Lk X0 Y0) (h1 : Lk X1 Y1) (h2 : Lk X2 Y2) :
    Sim addr addr' (walk3 has M addr cd p3 x u f A0 X0 A1 X1 A2 X2) (walk3 has M' addr' cd p3 x u f B0 Y0 B1 Y1 B2 Y2) := by
  unfold walk3
  rw [← h2.b7, ← h2.fr]
  split
  · exact sim_end3 x u f h0 h1 h2
  · rcases bad_sim h has (X2 / 4096 % 1048576) p3 1 addr addr' cd with ⟨e1, e2⟩ | ⟨a, a', c, e, e1, e2, e3⟩
    · rw [e1, e2]; exact sim_end4 x u f h0 h1 h2 (h _ _)
    · rw [e1, e2]; exact sim_no M M' e3
theorem sim_walk2 {M M' : Int → Int} (h : Lkm M M') (has : Int → Bool) {addr addr' cd p2 p3 A0 A1 B0 B1 X0 X1 Y0 Y1 : Int} (x u f : Bool) (h0 : Lk X0 Y0) (h1 : Lk X1 Y1) :
    Sim addr addr' (walk2 has M addr cd p2 p3 x u f A0 X0 A1 X1) (walk2 has M' addr' cd p2 p3 x u f B0 Y0 B1 Y1) := by
  unfold walk2
  rw [← h1.fr]
  rcases bad_sim h has (X1 / 4096 % 1048576) p2 2 addr addr' cd with ⟨e1, e2⟩ | ⟨a, a', c, e, e1, e2, e3⟩
  · rw [e1, e2]; exact sim_walk3 h has x u f h0 h1 (h _ _)
  · rw [e1, e2]; exact sim_no M M' e3
theorem sim_walk1 {M M' : Int → Int} (h : Lkm M M') (has : Int → Bool) {addr addr' cd p1 p2 p3 A0 B0 X0 Y0 : Int} (x u f : Bool) (h0 : Lk X0 Y0) :
    Sim addr addr' (walk1 has M addr cd p1 p2 p3 x u f A0 X0) (walk1 has M' addr' cd p1 p2 p3 x u f B0 Y0) := by
  unfold walk1
  rw [← h0.fr]
  rcases bad_sim h has (X0 / 4096 % 1048576) p1 3 addr addr' cd with ⟨e1, e2⟩ | ⟨a, a', c, e, e1, e2, e3⟩
  · rw [e1, e2]; exact sim_walk2 h has x u f h0 (h _ _)
  · rw [e1, e2]; exact sim_no M M' e3
theorem sim_walk0 {M M' : Int → Int} (h : Lkm M M') (has : Int → Bool) {root addr addr' cd p0 p1 p2 p3 : Int} (x u f : Bool) :
    Sim addr addr' (walk0 has M root addr cd p0 p1 p2 p3 x u f) (walk0 has M' root addr' cd p0 p1 p2 p3 x u f) := by
  unfold walk0
  rcases bad_sim h has root p0 4 addr addr' cd with ⟨e1, e2⟩ | ⟨a, a', c, e, e1, e2, e3⟩
  · rw [e1, e2]; exact sim_walk1 h has x u f (h _ _)
  · rw [e1, e2]; exact sim_no M M' e3
theorem can_page {a b : Int} (h : a / 4096 = b / 4096) (a0 : 0 ≤ a) (a1 : a < 18446744073709551616) (b0 : 0 ≤ b) (b1 : b < 18446744073709551616) : (ext a == a) = (ext b == b) := by
  have e : ∀ x : Int, 0 ≤ x → x < 18446744073709551616 → ((ext x == x) = decide (x / 4096 < 34359738368 ∨ 4503565267632128 ≤ x / 4096)) := fun x x0 x1 => by
    unfold ext
    by_cases h : x / 4096 < 34359738368 ∨ 4503565267632128 ≤ x / 4096
    · rw [decide_eq_true h]
      split <;> (simp; omega)
    · rw [decide_eq_false h]
      split <;> (simp; omega)
  rw [e a a0 a1, e b b0 b1, h]
/-- two addresses of one page, in memories that are alike -/
theorem sim_walk {M M' : Int → Int} (h : Lkm M M') (has : Int → Bool) (root : Int) {a b : Int} (hp : a / 4096 = b / 4096) (a0 : 0 ≤ a) (a1 : a < 18446744073709551616) (b0 : 0 ≤ b) (b1 : b < 18446744073709551616) (x u f : Bool) :
    Sim a b (walkW has M root a x u f) (walkW has M' root b x u f) := by
  unfold walkW
  rw [← can_page hp a0 a1 b0 b1, ← hp]
  split
  · exact sim_no M M' (fun h => by omega)
  split
  · exact sim_no M M' (fun h => by omega)
  · exact sim_walk0 h has x u f
end Go.Proofs.YtkbkikbcpllknabDoor
