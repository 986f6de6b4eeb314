/- The contracts of Store and Load over a memory's row of bytes. -/
import Derived.Test.YtkiclbnbnjbcaabDoorR7
namespace Go.Proofs.YtkiclbnbnjbcaabDoor
open Go.ChangeShapes Go.WideShapes Go.ChangeAt Go.RowKit Go.Maps
set_option linter.unusedSimpArgs false
set_option linter.unusedVariables false
set_option maxRecDepth 8000

theorem IsRam.hasOk {w : World} {B rb : Nat} {has : Int → Bool} {F : Int} {M : Int → Int} {n : Nat} (h : IsRam w B rb has F M n) : ∃ S, HasOk w rb S has := by
  obtain ⟨mb, S, pg, q1, q2, hk, _⟩ := h; exact ⟨S, hk⟩
theorem IsRam.size {w : World} {B rb : Nat} {has : Int → Bool} {F : Int} {M : Int → Int} {n : Nat} (h : IsRam w B rb has F M n) : B ≤ w.heap.size := by
  obtain ⟨mb, S, pg, q1, q2, hk, _⟩ := h
  have := hk.2.1 rb hk.1; omega
theorem IsRam.byte {w : World} {B rb : Nat} {has : Int → Bool} {F : Int} {M : Int → Int} {n : Nat} (h : IsRam w B rb has F M n) : ∀ t, 0 ≤ M t ∧ M t < 256 := by
  obtain ⟨mb, S, pg, q1, q2, hk, q3, q4, q5, hm, hp, hi, hz, hb⟩ := h; exact hb

theorem div_pow_pow (x : Int) (hx : 0 ≤ x) (a b : Nat) : x / 256 ^ a / 256 ^ b = x / 256 ^ (a + b) := by
  rw [Int.pow_add, Int.ediv_ediv_of_nonneg (Int.le_of_lt (Int.pow_pos (by omega)))]
theorem mset_two (M : Int → Int) (addr L size x : Int) (hx : 0 ≤ x) (l0 : 0 ≤ L) (l1 : L ≤ size) : mset (mset M addr L x) (addr + L) (size - L) (x / 256 ^ L.toNat) = mset M addr size x := by
  funext t
  unfold mset
  by_cases c1 : addr + L ≤ t ∧ t < addr + L + (size - L)
  · rw [if_pos c1, if_pos (by omega), div_pow_pow x hx, show L.toNat + (t - (addr + L)).toNat = (t - addr).toNat by omega]
  · rw [if_neg c1]
    by_cases c2 : addr ≤ t ∧ t < addr + L
    · rw [if_pos c2, if_pos (by omega)]
    · rw [if_neg c2, if_neg (by omega)]
theorem ld_bd {M : Int → Int} (hM : ∀ t, 0 ≤ M t ∧ M t < 256) (addr : Int) : ∀ n : Nat, 0 ≤ ld M addr n ∧ ld M addr n < 256 ^ n
  | 0 => by simp [ld]
  | n + 1 => by
    have h := ld_bd hM addr n
    have h2 := hM (addr + n)
    simp only [ld]
    have hp : (0 : Int) < 256 ^ n := Int.pow_pos (by omega)
    have h3 : 0 ≤ M (addr + n) * 256 ^ n := Int.mul_nonneg h2.1 (by omega)
    have h4 : M (addr + n) * 256 ^ n ≤ 255 * 256 ^ n := Int.mul_le_mul_of_nonneg_right (by omega) (by omega)
    rw [Int.pow_succ]
    omega
theorem ld_add (M : Int → Int) (addr : Int) (l : Nat) : ∀ r : Nat, ld M addr (l + r) = ld M addr l + ld M (addr + l) r * 256 ^ l
  | 0 => by simp [ld]
  | r + 1 => by
    rw [← Nat.add_assoc]
    simp only [ld]
    rw [ld_add M addr l r, Int.pow_add, Int.add_mul, show addr + ((l + r : Nat) : Int) = addr + l + r by omega, ← Int.mul_assoc, Int.mul_right_comm (M _) _ _, Int.add_assoc]
theorem pow_le8 {m : Nat} (h : m ≤ 8) : (256 : Int) ^ m ≤ 18446744073709551616 := by
  rcases (show m = 0 ∨ m = 1 ∨ m = 2 ∨ m = 3 ∨ m = 4 ∨ m = 5 ∨ m = 6 ∨ m = 7 ∨ m = 8 by omega) with rfl | rfl | rfl | rfl | rfl | rfl | rfl | rfl | rfl <;> decide
theorem or_part {X Y : Int} {l r : Nat} (x0 : 0 ≤ X) (x1 : X < 256 ^ l) (y0 : 0 ≤ Y) (y1 : Y < 256 ^ r) (h8 : l + r ≤ 8) : bits .or .u64 X (IntKind.u64.wrap (Y * 2 ^ (8 * l))) = X + Y * 256 ^ l := by
  have hp : (0 : Int) < 256 ^ l := Int.pow_pos (by omega)
  have h1 : (Y + 1) * 256 ^ l ≤ 256 ^ r * 256 ^ l := Int.mul_le_mul_of_nonneg_right (by omega) (by omega)
  rw [← Int.pow_add, Nat.add_comm r l, Int.add_mul, Int.one_mul] at h1
  have h2 := pow_le8 h8
  have h3 : 0 ≤ Y * 256 ^ l := Int.mul_nonneg y0 (by omega)
  rw [IntKind.wrap_u64, pow256, Int.emod_eq_of_lt h3 (by omega)]
  have h4 := or_at (8 * l) X Y x0 (by rw [pow256]; exact x1) y0 (by rw [pow256]; omega)
  rw [pow256] at h4; exact h4

theorem IsRam.mono {w : World} {B rb : Nat} {has : Int → Bool} {F : Int} {M : Int → Int} {n n' : Nat} (h : IsRam w B rb has F M n) (hn : n ≤ n') : IsRam w B rb has F M n' := by
  obtain ⟨mb, S, pg, q1, q2, hk, q3, q4, q5, hm, hr⟩ := h
  exact ⟨mb, S, pg, q1, q2, hk, q3, q4, q5, hm.mono hn, hr⟩

set_option maxHeartbeats 400000 in
theorem store_err {w : World} {B rb : Nat} {has : Int → Bool} {F : Int} {M : Int → Int} {n : Nat} (h : IsRam w B rb has F M n) (addr size x : Int) (h0 : 0 ≤ addr) (h1 : addr < 18446744073709551616) (z : Int) (hz : chkG has addr size = z) (hnz : z ≠ 0) :
    Calls Tryd.prog 48 #[.pointer (some ⟨rb, 0, none⟩), .int .u64 addr, .int .i64 size, .int .u64 x] w fun e w' => e = .returned (.int .i64 z) ∧ IsRam w' B rb has F M n ∧ Below B w w' := by
  obtain ⟨S, hk⟩ := h.hasOk
  have ck : Hid (∀ u : Unit, Calls Tryd.prog 62 #[.pointer (some ⟨rb, 0, none⟩), .int .u64 addr, .int .i64 size] w fun e w' => e = .returned (.int .i64 z) ∧ w.grownBy w' none) := by
    intro _; rw [← hz]; exact check_any rb S has addr size w h0 h1 hk
  have HI : Hid (IsRam w B rb has F M n) := h
  have bz : (z != 0) = true := bne_iff_ne.2 hnz
  clear h hk hz hnz
  go_enter Tryd.func48, Tryd.ntmps48
  go_wp2_with fail
  refine (ck.out ()).mono ?_
  rintro e w1 ⟨rfl, hg1⟩
  go_wp2_with fail
  go_ret
  exact ⟨rfl, HI.out.grown hg1, below_of_grown0 hg1 HI.out.size⟩

set_option maxHeartbeats 400000 in
theorem store_ok {w : World} {B rb : Nat} {has : Int → Bool} {F : Int} {M : Int → Int} {n : Nat} (h : IsRam w B rb has F M n) (hn : n + 1 < maxLen) (addr size x : Int) (h0 : 0 ≤ addr) (h1 : addr < 18446744073709551616) (hz : chkG has addr size = 0)
    (x0 : 0 ≤ x) (x1 : x < 18446744073709551616) :
    Calls Tryd.prog 48 #[.pointer (some ⟨rb, 0, none⟩), .int .u64 addr, .int .i64 size, .int .u64 x] w fun e w' => e = .returned (.int .i64 0) ∧ IsRam w' B rb has F (mset M addr size x) (n + 2) ∧ Below B w w' := by
  obtain ⟨S, hk⟩ := h.hasOk
  have hsz : size = 1 ∨ size = 2 ∨ size = 4 ∨ size = 8 := by
    unfold chkG at hz
    by_cases c : size = 1 ∨ size = 2 ∨ size = 4 ∨ size = 8
    · exact c
    · rw [if_neg c] at hz; omega
  have hfit : addr + size ≤ 18446744073709551616 := by
    unfold chkG at hz
    rw [if_pos hsz] at hz
    by_cases c : addr + size ≤ 18446744073709551616 ∧ has (addr / 4096) = true ∧ has ((addr + size - 1) / 4096) = true
    · exact c.1
    · rw [if_neg c] at hz; omega
  have ck : Hid (∀ u : Unit, Calls Tryd.prog 62 #[.pointer (some ⟨rb, 0, none⟩), .int .u64 addr, .int .i64 size] w fun e w' => e = .returned (.int .i64 0) ∧ w.grownBy w' none) := by
    intro _; rw [← hz]; exact check_any rb S has addr size w h0 h1 hk
  obtain ⟨K, hK⟩ : ∃ K : Int, addr / 4096 = K := ⟨_, rfl⟩
  obtain ⟨A, hA⟩ : ∃ A : Int, addr % 4096 = A := ⟨_, rfl⟩
  have hKA : addr = K * 4096 + A := by omega
  have A0 : 0 ≤ A := by omega
  have A1 : A < 4096 := by omega
  have K0 : 0 ≤ K := by omega
  have K1 : K < 4503599627370496 := by omega
  have s0 : 1 ≤ size := by omega
  have s8 : size ≤ 8 := by omega
  have HI : Hid (IsRam w B rb has F M n) := h
  by_cases c : size ≤ 4096 - A
  · have sp : Hid (∀ w : World, Calls Tryd.prog 63 #[.int .u64 addr, .int .i64 size] w fun e w' => e = .returned (.tuple #[.int .i64 K, .int .i64 A, .int .i64 size]) ∧ w' = w) := by
      intro w; rw [← hK, ← hA]; exact split_in addr size h0 h1 (by omega) s8 (by omega) w
    have wr : Hid (∀ w1 : World, IsRam w1 B rb has F M n → Calls Tryd.prog 64 #[.pointer (some ⟨rb, 0, none⟩), .int .i64 K, .int .i64 A, .int .i64 size, .int .u64 x] w1 fun e w' => e = .returned (.tuple #[]) ∧
      IsRam w' B rb has F (mset M addr size x) (n + 1) ∧ Below B w1 w') := by
      intro w1 hI
      have := write_any hI (by omega) K A size x (by omega) (by omega) A0 (by omega) s8 (by omega) x0 x1
      rw [← hKA] at this; exact this
    clear h hk hz hsz hfit hK hA hKA A0 A1 K0 K1 s0 s8 c
    go_enter Tryd.func48, Tryd.ntmps48
    go_wp2_with fail
    refine (ck.out ()).mono ?_
    rintro e w1 ⟨rfl, hg1⟩
    go_wp2_with fail
    refine (sp.out _).mono ?_
    rintro e w' ⟨rfl, rfl⟩
    go_wp2_with fail
    refine (wr.out _ (HI.out.grown hg1)).mono ?_
    rintro e w2 ⟨rfl, hI2, hb2⟩
    go_wp2_with fail
    go_ret
    exact ⟨rfl, hI2.mono (by omega), (below_of_grown0 hg1 HI.out.size).trans hb2⟩
  · obtain ⟨L, hL⟩ : ∃ L : Int, 4096 - A = L := ⟨_, rfl⟩
    obtain ⟨y, hy⟩ : ∃ y : Int, x / 2 ^ (8 * L).toNat = y := ⟨_, rfl⟩
    obtain ⟨R, hR⟩ : ∃ R : Int, size - L = R := ⟨_, rfl⟩
    have l0 : 1 ≤ L := by omega
    have l1 : L < size := by omega
    have l8 : L ≤ 8 := by omega
    have r0 : 0 ≤ R := by omega
    have r8 : R ≤ 8 := by omega
    have hyx : y = x / 256 ^ L.toNat := by rw [← hy, show (8 * L).toNat = 8 * L.toNat by omega, pow256]
    have y0 : 0 ≤ y := by rw [hyx]; exact Int.ediv_nonneg x0 (Int.le_of_lt (Int.pow_pos (by omega)))
    have y1 : y < 18446744073709551616 := by rw [hyx]; exact Int.lt_of_le_of_lt (Int.ediv_le_self _ x0) x1
    have sp : Hid (∀ w : World, Calls Tryd.prog 63 #[.int .u64 addr, .int .i64 size] w fun e w' => e = .returned (.tuple #[.int .i64 K, .int .i64 A, .int .i64 L]) ∧ w' = w) := by
      intro w; rw [← hL, ← hK, ← hA]; exact split_over addr size h0 h1 (by omega) s8 (by omega) w
    have wr : Hid (∀ w1 : World, IsRam w1 B rb has F M n → Calls Tryd.prog 64 #[.pointer (some ⟨rb, 0, none⟩), .int .i64 K, .int .i64 A, .int .i64 L, .int .u64 x] w1 fun e w' => e = .returned (.tuple #[]) ∧
      IsRam w' B rb has F (mset M addr L x) (n + 1) ∧ Below B w1 w') := by
      intro w1 hI
      have := write_any hI (by omega) K A L x (by omega) (by omega) A0 (by omega) (by omega) (by omega) x0 x1
      rw [← hKA] at this; exact this
    have wr2 : Hid (∀ w1 : World, IsRam w1 B rb has F (mset M addr L x) (n + 1) → Calls Tryd.prog 64 #[.pointer (some ⟨rb, 0, none⟩), .int .i64 (K + 1), .int .i64 0, .int .i64 R, .int .u64 y] w1 fun e w' => e = .returned (.tuple #[]) ∧
      IsRam w' B rb has F (mset M addr size x) (n + 2) ∧ Below B w1 w') := by
      intro w1 hI
      have := write_any hI (by omega) (K + 1) 0 R y (by omega) (by omega) (by omega) (by omega) (by omega) (by omega) y0 y1
      rw [show (K + 1) * 4096 + 0 = addr + L by omega, ← hR, hyx, mset_two M addr L size x x0 (by omega) (by omega), hR, ← hyx] at this
      exact this
    clear h hk hz hsz hfit hK hA hKA A0 A1 s8 c hL hyx y0 y1
    go_enter Tryd.func48, Tryd.ntmps48
    go_wp2_with fail
    refine (ck.out ()).mono ?_
    rintro e w1 ⟨rfl, hg1⟩
    go_wp2_with fail
    refine (sp.out _).mono ?_
    rintro e w' ⟨rfl, rfl⟩
    go_wp2_with fail
    refine (wr.out _ (HI.out.grown hg1)).mono ?_
    rintro e w2 ⟨rfl, hI2, hb2⟩
    have HI2 : Hid (IsRam w2 B rb has F (mset M addr L x) (n + 1)) := hI2
    clear hI2
    go_wp2_with fail
    refine (wr2.out _ HI2.out).mono ?_
    rintro e w3 ⟨rfl, hI3, hb3⟩
    go_wp2_with fail
    go_ret
    exact ⟨rfl, hI3, ((below_of_grown0 hg1 HI.out.size).trans hb2).trans hb3⟩

set_option maxHeartbeats 400000 in
theorem load_err {w : World} {B rb : Nat} {has : Int → Bool} {F : Int} {M : Int → Int} {n : Nat} (h : IsRam w B rb has F M n) (addr size : Int) (h0 : 0 ≤ addr) (h1 : addr < 18446744073709551616) (z : Int) (hz : chkG has addr size = z) (hnz : z ≠ 0) :
    Calls Tryd.prog 65 #[.pointer (some ⟨rb, 0, none⟩), .int .u64 addr, .int .i64 size] w fun e w' => e = .returned (.tuple #[.int .u64 0, .int .i64 z]) ∧ IsRam w' B rb has F M n ∧ Below B w w' := by
  obtain ⟨S, hk⟩ := h.hasOk
  have ck : Hid (∀ u : Unit, Calls Tryd.prog 62 #[.pointer (some ⟨rb, 0, none⟩), .int .u64 addr, .int .i64 size] w fun e w' => e = .returned (.int .i64 z) ∧ w.grownBy w' none) := by
    intro _; rw [← hz]; exact check_any rb S has addr size w h0 h1 hk
  have HI : Hid (IsRam w B rb has F M n) := h
  have bz : (z != 0) = true := bne_iff_ne.2 hnz
  clear h hk hz hnz
  go_enter Tryd.func65, Tryd.ntmps65
  go_wp2_with fail
  refine (ck.out ()).mono ?_
  rintro e w1 ⟨rfl, hg1⟩
  go_wp2_with fail
  go_ret2
  exact ⟨rfl, HI.out.grown hg1, below_of_grown0 hg1 HI.out.size⟩

set_option maxHeartbeats 400000 in
theorem load_ok {w : World} {B rb : Nat} {has : Int → Bool} {F : Int} {M : Int → Int} {n : Nat} (h : IsRam w B rb has F M n) (addr size v : Int) (h0 : 0 ≤ addr) (h1 : addr < 18446744073709551616) (hz : chkG has addr size = 0)
    (hv : ld M addr size.toNat = v) :
    Calls Tryd.prog 65 #[.pointer (some ⟨rb, 0, none⟩), .int .u64 addr, .int .i64 size] w fun e w' => e = .returned (.tuple #[.int .u64 v, .int .i64 0]) ∧ IsRam w' B rb has F M n ∧ Below B w w' := by
  obtain ⟨S, hk⟩ := h.hasOk
  have hsz : size = 1 ∨ size = 2 ∨ size = 4 ∨ size = 8 := by
    unfold chkG at hz
    by_cases c : size = 1 ∨ size = 2 ∨ size = 4 ∨ size = 8
    · exact c
    · rw [if_neg c] at hz; omega
  have hfit : addr + size ≤ 18446744073709551616 := by
    unfold chkG at hz
    rw [if_pos hsz] at hz
    by_cases c : addr + size ≤ 18446744073709551616 ∧ has (addr / 4096) = true ∧ has ((addr + size - 1) / 4096) = true
    · exact c.1
    · rw [if_neg c] at hz; omega
  have ck : Hid (∀ u : Unit, Calls Tryd.prog 62 #[.pointer (some ⟨rb, 0, none⟩), .int .u64 addr, .int .i64 size] w fun e w' => e = .returned (.int .i64 0) ∧ w.grownBy w' none) := by
    intro _; rw [← hz]; exact check_any rb S has addr size w h0 h1 hk
  obtain ⟨K, hK⟩ : ∃ K : Int, addr / 4096 = K := ⟨_, rfl⟩
  obtain ⟨A, hA⟩ : ∃ A : Int, addr % 4096 = A := ⟨_, rfl⟩
  have hKA : addr = K * 4096 + A := by omega
  have A0 : 0 ≤ A := by omega
  have A1 : A < 4096 := by omega
  have K0 : 0 ≤ K := by omega
  have K1 : K < 4503599627370496 := by omega
  have s0 : 1 ≤ size := by omega
  have s8 : size ≤ 8 := by omega
  have HI : Hid (IsRam w B rb has F M n) := h
  by_cases c : size ≤ 4096 - A
  · have sp : Hid (∀ w : World, Calls Tryd.prog 63 #[.int .u64 addr, .int .i64 size] w fun e w' => e = .returned (.tuple #[.int .i64 K, .int .i64 A, .int .i64 size]) ∧ w' = w) := by
      intro w; rw [← hK, ← hA]; exact split_in addr size h0 h1 (by omega) s8 (by omega) w
    have rd : Hid (∀ w1 : World, IsRam w1 B rb has F M n → Calls Tryd.prog 74 #[.pointer (some ⟨rb, 0, none⟩), .int .i64 K, .int .i64 A, .int .i64 size] w1 fun e w' => e = .returned (.int .u64 v) ∧ w' = w1) := by
      intro w1 hI
      have := read_any hI K A size (by omega) (by omega) A0 (by omega) s8 (by omega)
      rw [← hKA, hv] at this; exact this
    clear h hk hz hsz hfit hK hA hKA A0 A1 K0 K1 s0 s8 c hv
    go_enter Tryd.func65, Tryd.ntmps65
    go_wp2_with fail
    refine (ck.out ()).mono ?_
    rintro e w1 ⟨rfl, hg1⟩
    go_wp2_with fail
    refine (sp.out _).mono ?_
    rintro e w' ⟨rfl, rfl⟩
    go_wp2_with fail
    refine (rd.out _ (HI.out.grown hg1)).mono ?_
    rintro e w' ⟨rfl, rfl⟩
    go_wp2_with fail
    go_ret2
    exact ⟨rfl, HI.out.grown hg1, below_of_grown0 hg1 HI.out.size⟩
  · obtain ⟨L, hL⟩ : ∃ L : Int, 4096 - A = L := ⟨_, rfl⟩
    obtain ⟨R, hR⟩ : ∃ R : Int, size - L = R := ⟨_, rfl⟩
    have l0 : 1 ≤ L := by omega
    have l1 : L < size := by omega
    have l8 : L ≤ 8 := by omega
    have r0 : 0 ≤ R := by omega
    have r8 : R ≤ 8 := by omega
    obtain ⟨X, hX⟩ : ∃ X : Int, ld M addr L.toNat = X := ⟨_, rfl⟩
    obtain ⟨Y, hY⟩ : ∃ Y : Int, ld M (addr + L) R.toNat = Y := ⟨_, rfl⟩
    have sp : Hid (∀ w : World, Calls Tryd.prog 63 #[.int .u64 addr, .int .i64 size] w fun e w' => e = .returned (.tuple #[.int .i64 K, .int .i64 A, .int .i64 L]) ∧ w' = w) := by
      intro w; rw [← hL, ← hK, ← hA]; exact split_over addr size h0 h1 (by omega) s8 (by omega) w
    have rd : Hid (∀ w1 : World, IsRam w1 B rb has F M n → Calls Tryd.prog 74 #[.pointer (some ⟨rb, 0, none⟩), .int .i64 K, .int .i64 A, .int .i64 L] w1 fun e w' => e = .returned (.int .u64 X) ∧ w' = w1) := by
      intro w1 hI
      have := read_any hI K A L (by omega) (by omega) A0 (by omega) (by omega) (by omega)
      rw [← hKA, hX] at this; exact this
    have rd2 : Hid (∀ w1 : World, IsRam w1 B rb has F M n → Calls Tryd.prog 74 #[.pointer (some ⟨rb, 0, none⟩), .int .i64 (K + 1), .int .i64 0, .int .i64 R] w1 fun e w' => e = .returned (.int .u64 Y) ∧ w' = w1) := by
      intro w1 hI
      have := read_any hI (K + 1) 0 R (by omega) (by omega) (by omega) (by omega) (by omega) (by omega)
      rw [show (K + 1) * 4096 + 0 = addr + L by omega, hY] at this; exact this
    have hX' := ld_bd h.byte addr L.toNat
    have hY' := ld_bd h.byte (addr + L) R.toNat
    rw [hX] at hX'; rw [hY] at hY'
    have hor : bits .or .u64 X (IntKind.u64.wrap (Y * 2 ^ (8 * L).toNat)) = v := by
      rw [show (8 * L).toNat = 8 * L.toNat by omega, or_part hX'.1 hX'.2 hY'.1 hY'.2 (by omega), ← hX, ← hY, ← hv, show size.toNat = L.toNat + R.toNat by omega, ld_add, show addr + ((L.toNat : Nat) : Int) = addr + L by omega]
    clear h hk hz hsz hfit hK hA hKA A0 A1 s8 c hL hv hX hY hX' hY'
    go_enter Tryd.func65, Tryd.ntmps65
    go_wp2_with fail
    refine (ck.out ()).mono ?_
    rintro e w1 ⟨rfl, hg1⟩
    go_wp2_with fail
    refine (sp.out _).mono ?_
    rintro e w' ⟨rfl, rfl⟩
    go_wp2_with fail
    refine (rd.out _ (HI.out.grown hg1)).mono ?_
    rintro e w' ⟨rfl, rfl⟩
    go_wp2_with fail
    refine (rd2.out _ (HI.out.grown hg1)).mono ?_
    rintro e w' ⟨rfl, rfl⟩
    go_wp2_with fail
    go_ret2
    exact ⟨rfl, HI.out.grown hg1, below_of_grown0 hg1 HI.out.size⟩
end Go.Proofs.YtkiclbnbnjbcaabDoor
