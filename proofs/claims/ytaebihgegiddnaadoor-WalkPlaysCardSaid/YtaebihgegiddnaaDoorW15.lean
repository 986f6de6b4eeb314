/- Walk, for every memory and every address. -/
import Derived.Test.YtaebihgegiddnaaDoorW14
namespace Go.Proofs.YtaebihgegiddnaaDoor
open Go.ChangeShapes Go.WideShapes Go.ChangeAt Go.RowKit Go.Maps
set_option linter.unusedSimpArgs false
set_option linter.unusedVariables false
set_option maxRecDepth 8000

theorem walk_l3 {w : World} {K0 : Nat → Prop} {rb m : Nat} {has : Int → Bool} {F : Int} {M : Int → Int} (hX : RamX w K0 rb has F M m) (ht : Tab w) (k00 : K0 0) (hm : m + 100 < maxLen) (hF : ∀ k, has k = true → 0 ≤ k ∧ k < 1048576) (root addr p0 p1 p2 p3 po : Int) (x u f : Bool)
    (hc : Hid (∀ w : World, Calls Tryd.prog 15 #[.int .u64 addr] w fun e w' => e = .returned (.bool true) ∧ w' = w))
    (sp : Hid (∀ w : World, Calls Tryd.prog 19 #[.int .u64 addr] w fun e w' => e = .returned (.tuple #[.agg #[.int .i64 p0, .int .i64 p1, .int .i64 p2, .int .i64 p3], .int .i64 po]) ∧ Below w.heap.size w w'))
    (hr : has root = true) (b0 : 0 ≤ p0 ∧ p0 < 512) (b1 : 0 ≤ p1 ∧ p1 < 512) (b2 : 0 ≤ p2 ∧ p2 < 512) (b3 : 0 ≤ p3 ∧ p3 < 512)
    (A0 X0 A1 X1 A2 X2 : Int) (a0 : 0 ≤ A0) (c0 : chkG has A0 8 = 0) (x0 : 0 ≤ X0 ∧ X0 < 18446744073709551616) (l0 : Hid (∀ w : World, Rd w rb has F M m → Calls Tryd.prog 42 #[.pointer (some ⟨rb, 0, none⟩), .int .i64 root, .int .i64 p0, .int .i64 4, .agg #[.int .u64 addr, .int .i64 (codeV x u f)]] w fun e w' => e = .returned (.agg #[.int .u64 A0, .int .u64 X0, .bool (bt (X0)), .bool (bt (X0 / 2)), .bool (bt (X0 / 4)), .bool (bt (X0 / 32)), .bool (bt (X0 / 64)), .bool (bt (X0 / 128)), .bool (bt (X0 / 256)), .bool (bt (X0 / 9223372036854775808)), .int .i64 (X0 / 4096 % 1048576), .int .i64 4]) ∧ Below w.heap.size w w')) (a1 : 0 ≤ A1) (c1 : chkG has A1 8 = 0) (x1 : 0 ≤ X1 ∧ X1 < 18446744073709551616) (l1 : Hid (∀ w : World, Rd w rb has F M m → Calls Tryd.prog 42 #[.pointer (some ⟨rb, 0, none⟩), .int .i64 (X0 / 4096 % 1048576), .int .i64 p1, .int .i64 3, .agg #[.int .u64 addr, .int .i64 (codeV x u f)]] w fun e w' => e = .returned (.agg #[.int .u64 A1, .int .u64 X1, .bool (bt (X1)), .bool (bt (X1 / 2)), .bool (bt (X1 / 4)), .bool (bt (X1 / 32)), .bool (bt (X1 / 64)), .bool (bt (X1 / 128)), .bool (bt (X1 / 256)), .bool (bt (X1 / 9223372036854775808)), .int .i64 (X1 / 4096 % 1048576), .int .i64 3]) ∧ Below w.heap.size w w')) (a2 : 0 ≤ A2) (c2 : chkG has A2 8 = 0) (x2 : 0 ≤ X2 ∧ X2 < 18446744073709551616) (l2 : Hid (∀ w : World, Rd w rb has F M m → Calls Tryd.prog 42 #[.pointer (some ⟨rb, 0, none⟩), .int .i64 (X1 / 4096 % 1048576), .int .i64 p2, .int .i64 2, .agg #[.int .u64 addr, .int .i64 (codeV x u f)]] w fun e w' => e = .returned (.agg #[.int .u64 A2, .int .u64 X2, .bool (bt (X2)), .bool (bt (X2 / 2)), .bool (bt (X2 / 4)), .bool (bt (X2 / 32)), .bool (bt (X2 / 64)), .bool false, .bool (bt (X2 / 256)), .bool (bt (X2 / 9223372036854775808)), .int .i64 (X2 / 4096 % 1048576), .int .i64 2]) ∧ Below w.heap.size w w')) (nl : bt (X2 / 128) = false) :
    Calls Tryd.prog 7 #[.pointer (some ⟨rb, 0, none⟩), .int .i64 root, .int .u64 addr, .agg #[.bool x, .bool u, .bool f]] w fun e w' => e = .returned (walk3 has M addr (codeV x u f) p3 x u f A0 X0 A1 X1 A2 X2).val ∧ RamX w' K0 rb has F (walk3 has M addr (codeV x u f) p3 x u f A0 X0 A1 X1 A2 X2).M (m + 8) ∧ Kept K0 w w' ∧ Tab w' := by
  have hM := hX.1.byte
  have t0 : 0 ≤ (X2 / 4096 % 1048576) ∧ (X2 / 4096 % 1048576) < 1048576 := by omega
  unfold walk3
  rw [if_neg (by rw [nl]; simp)]
  cases hb : badV has M (X2 / 4096 % 1048576) p3 1 addr (codeV x u f) with
  | some t =>
    obtain ⟨a, c, e'⟩ := t
    have lb := look_bad (rb := rb) (n := m) (F := F) hM (X2 / 4096 % 1048576) p3 1 addr x u f t0.1 t0.2 b3.1 b3.2 hb
    simp only
    have fo : Hid (∀ W : World, Below w.heap.size w W → Calls Tryd.prog 21 #[.pointer (some ⟨rb, 0, none⟩), .int .i64 root, .agg #[.int .i64 p0, .int .i64 p1, .int .i64 p2, .int .i64 p3], .agg #[.int .u64 addr, .int .i64 (codeV x u f)]] W fun e w' => e = .panicked [refv a c e'] ∧ Below W.heap.size W w') := fun W hb =>
      followP3 root addr (codeV x u f) p0 p1 p2 p3 _ _ _ _ _ _ _ _ _ _ _ _ _ _ _ _ _ _ _ _ _ _ _ _ _ _ _ _ _ _ _ _ _ l0 l1 l2 lb W (hX.rd ht hb)
    have hh := hX.has root
    rw [hr] at hh
    exact (walk_panic root addr p0 p1 p2 p3 po (codeV x u f) x u f hc sp (fun w => code_any x u f w) w hh a c e' fo).mono fun e w' h => ⟨h.1, walk_still hX ht h.2⟩
  | none =>
    have hg := look_good (rb := rb) (n := m) (F := F) hM (X2 / 4096 % 1048576) p3 1 addr (codeV x u f) t0.1 t0.2 b3.1 b3.2 hb
    have hx := ent_bd hM (X2 / 4096 % 1048576) p3
    have ha : 0 ≤ (X2 / 4096 % 1048576) * 4096 + p3 * 8 := by omega
    simp only
    generalize entV M (X2 / 4096 % 1048576) p3 = X3 at hg hx ⊢
    generalize (X2 / 4096 % 1048576) * 4096 + p3 * 8 = A3 at hg ha ⊢
    exact walk_end4 hX ht k00 hm hF root addr p0 p1 p2 p3 po x u f hc sp hr b0 b1 b2 b3 A0 X0 A1 X1 A2 X2 A3 X3 a0 c0 x0 l0 a1 c1 x1 l1 a2 c2 x2 l2 ha hg.1 hx hg.2
theorem walk_l2 {w : World} {K0 : Nat → Prop} {rb m : Nat} {has : Int → Bool} {F : Int} {M : Int → Int} (hX : RamX w K0 rb has F M m) (ht : Tab w) (k00 : K0 0) (hm : m + 100 < maxLen) (hF : ∀ k, has k = true → 0 ≤ k ∧ k < 1048576) (root addr p0 p1 p2 p3 po : Int) (x u f : Bool)
    (hc : Hid (∀ w : World, Calls Tryd.prog 15 #[.int .u64 addr] w fun e w' => e = .returned (.bool true) ∧ w' = w))
    (sp : Hid (∀ w : World, Calls Tryd.prog 19 #[.int .u64 addr] w fun e w' => e = .returned (.tuple #[.agg #[.int .i64 p0, .int .i64 p1, .int .i64 p2, .int .i64 p3], .int .i64 po]) ∧ Below w.heap.size w w'))
    (hr : has root = true) (b0 : 0 ≤ p0 ∧ p0 < 512) (b1 : 0 ≤ p1 ∧ p1 < 512) (b2 : 0 ≤ p2 ∧ p2 < 512) (b3 : 0 ≤ p3 ∧ p3 < 512)
    (A0 X0 A1 X1 : Int) (a0 : 0 ≤ A0) (c0 : chkG has A0 8 = 0) (x0 : 0 ≤ X0 ∧ X0 < 18446744073709551616) (l0 : Hid (∀ w : World, Rd w rb has F M m → Calls Tryd.prog 42 #[.pointer (some ⟨rb, 0, none⟩), .int .i64 root, .int .i64 p0, .int .i64 4, .agg #[.int .u64 addr, .int .i64 (codeV x u f)]] w fun e w' => e = .returned (.agg #[.int .u64 A0, .int .u64 X0, .bool (bt (X0)), .bool (bt (X0 / 2)), .bool (bt (X0 / 4)), .bool (bt (X0 / 32)), .bool (bt (X0 / 64)), .bool (bt (X0 / 128)), .bool (bt (X0 / 256)), .bool (bt (X0 / 9223372036854775808)), .int .i64 (X0 / 4096 % 1048576), .int .i64 4]) ∧ Below w.heap.size w w')) (a1 : 0 ≤ A1) (c1 : chkG has A1 8 = 0) (x1 : 0 ≤ X1 ∧ X1 < 18446744073709551616) (l1 : Hid (∀ w : World, Rd w rb has F M m → Calls Tryd.prog 42 #[.pointer (some ⟨rb, 0, none⟩), .int .i64 (X0 / 4096 % 1048576), .int .i64 p1, .int .i64 3, .agg #[.int .u64 addr, .int .i64 (codeV x u f)]] w fun e w' => e = .returned (.agg #[.int .u64 A1, .int .u64 X1, .bool (bt (X1)), .bool (bt (X1 / 2)), .bool (bt (X1 / 4)), .bool (bt (X1 / 32)), .bool (bt (X1 / 64)), .bool (bt (X1 / 128)), .bool (bt (X1 / 256)), .bool (bt (X1 / 9223372036854775808)), .int .i64 (X1 / 4096 % 1048576), .int .i64 3]) ∧ Below w.heap.size w w')) :
    Calls Tryd.prog 7 #[.pointer (some ⟨rb, 0, none⟩), .int .i64 root, .int .u64 addr, .agg #[.bool x, .bool u, .bool f]] w fun e w' => e = .returned (walk2 has M addr (codeV x u f) p2 p3 x u f A0 X0 A1 X1).val ∧ RamX w' K0 rb has F (walk2 has M addr (codeV x u f) p2 p3 x u f A0 X0 A1 X1).M (m + 8) ∧ Kept K0 w w' ∧ Tab w' := by
  have hM := hX.1.byte
  have t0 : 0 ≤ (X1 / 4096 % 1048576) ∧ (X1 / 4096 % 1048576) < 1048576 := by omega
  unfold walk2
  cases hb : badV has M (X1 / 4096 % 1048576) p2 2 addr (codeV x u f) with
  | some t =>
    obtain ⟨a, c, e'⟩ := t
    have lb := look_bad (rb := rb) (n := m) (F := F) hM (X1 / 4096 % 1048576) p2 2 addr x u f t0.1 t0.2 b2.1 b2.2 hb
    simp only
    have fo : Hid (∀ W : World, Below w.heap.size w W → Calls Tryd.prog 21 #[.pointer (some ⟨rb, 0, none⟩), .int .i64 root, .agg #[.int .i64 p0, .int .i64 p1, .int .i64 p2, .int .i64 p3], .agg #[.int .u64 addr, .int .i64 (codeV x u f)]] W fun e w' => e = .panicked [refv a c e'] ∧ Below W.heap.size W w') := fun W hb =>
      followP2 root addr (codeV x u f) p0 p1 p2 p3 _ _ _ _ _ _ _ _ _ _ _ _ _ _ _ _ _ _ _ _ _ _ _ l0 l1 lb W (hX.rd ht hb)
    have hh := hX.has root
    rw [hr] at hh
    exact (walk_panic root addr p0 p1 p2 p3 po (codeV x u f) x u f hc sp (fun w => code_any x u f w) w hh a c e' fo).mono fun e w' h => ⟨h.1, walk_still hX ht h.2⟩
  | none =>
    have hg := look_good (rb := rb) (n := m) (F := F) hM (X1 / 4096 % 1048576) p2 2 addr (codeV x u f) t0.1 t0.2 b2.1 b2.2 hb
    have hx := ent_bd hM (X1 / 4096 % 1048576) p2
    have ha : 0 ≤ (X1 / 4096 % 1048576) * 4096 + p2 * 8 := by omega
    simp only
    generalize entV M (X1 / 4096 % 1048576) p2 = X2 at hg hx ⊢
    generalize (X1 / 4096 % 1048576) * 4096 + p2 * 8 = A2 at hg ha ⊢
    cases hl : bt (X2 / 128)
    · have l2 := hg.2
      rw [hl] at l2
      exact walk_l3 hX ht k00 hm hF root addr p0 p1 p2 p3 po x u f hc sp hr b0 b1 b2 b3 A0 X0 A1 X1 A2 X2 a0 c0 x0 l0 a1 c1 x1 l1 ha hg.1 hx l2 hl
    · have l2 := hg.2
      rw [hl] at l2
      unfold walk3
      rw [if_pos hl]
      exact walk_end3 hX ht k00 hm hF root addr p0 p1 p2 p3 po x u f hc sp hr b0 b1 b2 b3 A0 X0 A1 X1 A2 X2 a0 c0 x0 l0 a1 c1 x1 l1 ha hg.1 hx l2
theorem walk_l1 {w : World} {K0 : Nat → Prop} {rb m : Nat} {has : Int → Bool} {F : Int} {M : Int → Int} (hX : RamX w K0 rb has F M m) (ht : Tab w) (k00 : K0 0) (hm : m + 100 < maxLen) (hF : ∀ k, has k = true → 0 ≤ k ∧ k < 1048576) (root addr p0 p1 p2 p3 po : Int) (x u f : Bool)
    (hc : Hid (∀ w : World, Calls Tryd.prog 15 #[.int .u64 addr] w fun e w' => e = .returned (.bool true) ∧ w' = w))
    (sp : Hid (∀ w : World, Calls Tryd.prog 19 #[.int .u64 addr] w fun e w' => e = .returned (.tuple #[.agg #[.int .i64 p0, .int .i64 p1, .int .i64 p2, .int .i64 p3], .int .i64 po]) ∧ Below w.heap.size w w'))
    (hr : has root = true) (b0 : 0 ≤ p0 ∧ p0 < 512) (b1 : 0 ≤ p1 ∧ p1 < 512) (b2 : 0 ≤ p2 ∧ p2 < 512) (b3 : 0 ≤ p3 ∧ p3 < 512)
    (A0 X0 : Int) (a0 : 0 ≤ A0) (c0 : chkG has A0 8 = 0) (x0 : 0 ≤ X0 ∧ X0 < 18446744073709551616) (l0 : Hid (∀ w : World, Rd w rb has F M m → Calls Tryd.prog 42 #[.pointer (some ⟨rb, 0, none⟩), .int .i64 root, .int .i64 p0, .int .i64 4, .agg #[.int .u64 addr, .int .i64 (codeV x u f)]] w fun e w' => e = .returned (.agg #[.int .u64 A0, .int .u64 X0, .bool (bt (X0)), .bool (bt (X0 / 2)), .bool (bt (X0 / 4)), .bool (bt (X0 / 32)), .bool (bt (X0 / 64)), .bool (bt (X0 / 128)), .bool (bt (X0 / 256)), .bool (bt (X0 / 9223372036854775808)), .int .i64 (X0 / 4096 % 1048576), .int .i64 4]) ∧ Below w.heap.size w w')) :
    Calls Tryd.prog 7 #[.pointer (some ⟨rb, 0, none⟩), .int .i64 root, .int .u64 addr, .agg #[.bool x, .bool u, .bool f]] w fun e w' => e = .returned (walk1 has M addr (codeV x u f) p1 p2 p3 x u f A0 X0).val ∧ RamX w' K0 rb has F (walk1 has M addr (codeV x u f) p1 p2 p3 x u f A0 X0).M (m + 8) ∧ Kept K0 w w' ∧ Tab w' := by
  have hM := hX.1.byte
  have t0 : 0 ≤ (X0 / 4096 % 1048576) ∧ (X0 / 4096 % 1048576) < 1048576 := by omega
  unfold walk1
  cases hb : badV has M (X0 / 4096 % 1048576) p1 3 addr (codeV x u f) with
  | some t =>
    obtain ⟨a, c, e'⟩ := t
    have lb := look_bad (rb := rb) (n := m) (F := F) hM (X0 / 4096 % 1048576) p1 3 addr x u f t0.1 t0.2 b1.1 b1.2 hb
    simp only
    have fo : Hid (∀ W : World, Below w.heap.size w W → Calls Tryd.prog 21 #[.pointer (some ⟨rb, 0, none⟩), .int .i64 root, .agg #[.int .i64 p0, .int .i64 p1, .int .i64 p2, .int .i64 p3], .agg #[.int .u64 addr, .int .i64 (codeV x u f)]] W fun e w' => e = .panicked [refv a c e'] ∧ Below W.heap.size W w') := fun W hb =>
      followP1 root addr (codeV x u f) p0 p1 p2 p3 _ _ _ _ _ _ _ _ _ _ _ _ l0 lb W (hX.rd ht hb)
    have hh := hX.has root
    rw [hr] at hh
    exact (walk_panic root addr p0 p1 p2 p3 po (codeV x u f) x u f hc sp (fun w => code_any x u f w) w hh a c e' fo).mono fun e w' h => ⟨h.1, walk_still hX ht h.2⟩
  | none =>
    have hg := look_good (rb := rb) (n := m) (F := F) hM (X0 / 4096 % 1048576) p1 3 addr (codeV x u f) t0.1 t0.2 b1.1 b1.2 hb
    have hx := ent_bd hM (X0 / 4096 % 1048576) p1
    have ha : 0 ≤ (X0 / 4096 % 1048576) * 4096 + p1 * 8 := by omega
    simp only
    generalize entV M (X0 / 4096 % 1048576) p1 = X1 at hg hx ⊢
    generalize (X0 / 4096 % 1048576) * 4096 + p1 * 8 = A1 at hg ha ⊢
    exact walk_l2 hX ht k00 hm hF root addr p0 p1 p2 p3 po x u f hc sp hr b0 b1 b2 b3 A0 X0 A1 X1 a0 c0 x0 l0 ha hg.1 hx hg.2
theorem walk_l0 {w : World} {K0 : Nat → Prop} {rb m : Nat} {has : Int → Bool} {F : Int} {M : Int → Int} (hX : RamX w K0 rb has F M m) (ht : Tab w) (k00 : K0 0) (hm : m + 100 < maxLen) (hF : ∀ k, has k = true → 0 ≤ k ∧ k < 1048576) (root addr p0 p1 p2 p3 po : Int) (x u f : Bool)
    (hc : Hid (∀ w : World, Calls Tryd.prog 15 #[.int .u64 addr] w fun e w' => e = .returned (.bool true) ∧ w' = w))
    (sp : Hid (∀ w : World, Calls Tryd.prog 19 #[.int .u64 addr] w fun e w' => e = .returned (.tuple #[.agg #[.int .i64 p0, .int .i64 p1, .int .i64 p2, .int .i64 p3], .int .i64 po]) ∧ Below w.heap.size w w'))
    (hr : has root = true) (b0 : 0 ≤ p0 ∧ p0 < 512) (b1 : 0 ≤ p1 ∧ p1 < 512) (b2 : 0 ≤ p2 ∧ p2 < 512) (b3 : 0 ≤ p3 ∧ p3 < 512)
     :
    Calls Tryd.prog 7 #[.pointer (some ⟨rb, 0, none⟩), .int .i64 root, .int .u64 addr, .agg #[.bool x, .bool u, .bool f]] w fun e w' => e = .returned (walk0 has M root addr (codeV x u f) p0 p1 p2 p3 x u f).val ∧ RamX w' K0 rb has F (walk0 has M root addr (codeV x u f) p0 p1 p2 p3 x u f).M (m + 8) ∧ Kept K0 w w' ∧ Tab w' := by
  have hM := hX.1.byte
  have t0 : 0 ≤ root ∧ root < 1048576 := hF root hr
  unfold walk0
  cases hb : badV has M root p0 4 addr (codeV x u f) with
  | some t =>
    obtain ⟨a, c, e'⟩ := t
    have lb := look_bad (rb := rb) (n := m) (F := F) hM root p0 4 addr x u f t0.1 t0.2 b0.1 b0.2 hb
    simp only
    have fo : Hid (∀ W : World, Below w.heap.size w W → Calls Tryd.prog 21 #[.pointer (some ⟨rb, 0, none⟩), .int .i64 root, .agg #[.int .i64 p0, .int .i64 p1, .int .i64 p2, .int .i64 p3], .agg #[.int .u64 addr, .int .i64 (codeV x u f)]] W fun e w' => e = .panicked [refv a c e'] ∧ Below W.heap.size W w') := fun W hb =>
      followP0 root addr (codeV x u f) p0 p1 p2 p3 _   lb W (hX.rd ht hb)
    have hh := hX.has root
    rw [hr] at hh
    exact (walk_panic root addr p0 p1 p2 p3 po (codeV x u f) x u f hc sp (fun w => code_any x u f w) w hh a c e' fo).mono fun e w' h => ⟨h.1, walk_still hX ht h.2⟩
  | none =>
    have hg := look_good (rb := rb) (n := m) (F := F) hM root p0 4 addr (codeV x u f) t0.1 t0.2 b0.1 b0.2 hb
    have hx := ent_bd hM root p0
    have ha : 0 ≤ root * 4096 + p0 * 8 := by omega
    simp only
    generalize entV M root p0 = X0 at hg hx ⊢
    generalize root * 4096 + p0 * 8 = A0 at hg ha ⊢
    exact walk_l1 hX ht k00 hm hF root addr p0 p1 p2 p3 po x u f hc sp hr b0 b1 b2 b3  A0 X0  ha hg.1 hx hg.2
theorem walk_any {w : World} {K0 : Nat → Prop} {rb m : Nat} {has : Int → Bool} {F : Int} {M : Int → Int} (hX : RamX w K0 rb has F M m) (ht : Tab w) (k00 : K0 0) (hm : m + 100 < maxLen) (hF : ∀ k, has k = true → 0 ≤ k ∧ k < 1048576) (root addr : Int) (a0 : 0 ≤ addr) (a1 : addr < 18446744073709551616) (x u f : Bool) :
    Calls Tryd.prog 7 #[.pointer (some ⟨rb, 0, none⟩), .int .i64 root, .int .u64 addr, .agg #[.bool x, .bool u, .bool f]] w fun e w' => e = .returned (walkW has M root addr x u f).val ∧ RamX w' K0 rb has F (walkW has M root addr x u f).M (m + 8) ∧ Kept K0 w w' ∧ Tab w' := by
  unfold walkW
  by_cases hc : (ext addr == addr) = false
  · rw [if_pos hc]
    have h : Hid (∀ w : World, Calls Tryd.prog 15 #[.int .u64 addr] w fun e w' => e = .returned (.bool false) ∧ w' = w) := fun w => by
      have := canonical_any addr a0 a1 w
      rw [hc] at this; exact this
    exact (walk_arg rb root addr x u f h w).mono fun e w' h => ⟨h.1, walk_still hX ht h.2⟩
  · rw [if_neg hc]
    have hc' : (ext addr == addr) = true := by simpa using hc
    have h : Hid (∀ w : World, Calls Tryd.prog 15 #[.int .u64 addr] w fun e w' => e = .returned (.bool true) ∧ w' = w) := fun w => by
      have := canonical_any addr a0 a1 w
      rw [hc'] at this; exact this
    by_cases hr : has root = false
    · rw [if_pos hr]
      have hh := hX.has root
      rw [hr] at hh
      exact (walk_bus rb root addr x u f h w hh).mono fun e w' h => ⟨h.1, walk_still hX ht h.2⟩
    · rw [if_neg hr]
      exact walk_l0 hX ht k00 hm hF root addr _ _ _ _ (addr % 4096) x u f h (fun w => split_any addr a0 a1 w) (by simpa using hr) (by omega) (by omega) (by omega) (by omega)
end Go.Proofs.YtaebihgegiddnaaDoor
