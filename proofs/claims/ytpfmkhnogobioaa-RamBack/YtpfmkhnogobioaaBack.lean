/- RamBack, size by size. -/
import Derived.Test.YtpfmkhnogobioaaRAwake
namespace Go.Proofs.Ytpfmkhnogobioaa
open Go.ChangeShapes Go.WideShapes Go.ChangeAt Go.RowKit Go.Maps
set_option linter.unusedSimpArgs false
set_option linter.unusedVariables false

theorem ld_one (M : Int → Int) (a : Int) : ld M a (1 : Int).toNat = M a := by
  show ld M a 1 = M a
  simp [ld]
theorem chk_bus {F addr : Int} (h0 : 0 ≤ addr) (h1 : addr < 18446744073709551616) (h : F * 4096 ≤ addr) : chkG (hasF F) addr 1 = 2 := by
  unfold chkG hasF
  rw [if_pos (by omega), if_neg]
  rintro ⟨_, h2, _⟩
  simp at h2; omega

set_option maxHeartbeats 400000 in
theorem back_bad (addr size x other z : Int) (h0 : 0 ≤ addr) (h1 : addr < 18446744073709551616) (hz : chkG (hasF 4) addr size = z) (hnz : z ≠ 0) (w : World) :
    Calls Try.prog 5 #[.int .u64 addr, .int .i64 size, .int .u64 x, .int .u64 other] w fun e w' => e = .returned (.bool true) ∧ Below w.heap.size w w' := by
  have S1 := se_at (B := w.heap.size) (rb := w.heap.size + 1) (F := 4) (fun _ => 0) 0 addr size x z h0 h1 hz hnz
  have O1 := le_at (B := w.heap.size) (rb := w.heap.size + 1) (F := 4) (fun _ => 0) 0 addr size z h0 h1 hz hnz
  have nw := nw_at 4 (by omega) (by omega)
  have hnil := nil_no
  have bz : (z != 0) = true := bne_iff_ne.2 hnz
  clear hz hnz
  go_enter Try.func5, Try.ntmps5
  go_wp2_with fail
  refine (nw.out _).mono ?_
  rintro e v1 ⟨rfl, hI1, hb1⟩
  have HI1 : Hid (IsRam v1 w.heap.size (w.heap.size + 1) (hasF 4) 4 (fun _ => 0) 0) := hI1
  have HB1 : Hid (Below w.heap.size w v1) := hb1
  clear hI1 hb1
  go_wp2_with fail
  refine (S1.out _ HI1.out).mono ?_
  rintro e v2 ⟨rfl, hI2, hb2⟩
  have HI2 : Hid (IsRam v2 w.heap.size (w.heap.size + 1) (hasF 4) 4 (fun _ => 0) 0) := hI2
  have HB2 : Hid (Below w.heap.size v1 v2) := hb2
  clear hI2 hb2
  go_wp2_with fail
  refine (O1.out _ HI2.out).mono ?_
  rintro e v3 ⟨rfl, hI3, hb3⟩
  have HI3 : Hid (IsRam v3 w.heap.size (w.heap.size + 1) (hasF 4) 4 (fun _ => 0) 0) := hI3
  have HB3 : Hid (Below w.heap.size v2 v3) := hb3
  clear hI3 hb3
  go_wp2_with fail
  refine (awake_any _).mono ?_
  rintro e v4 ⟨rfl, hb4⟩
  have HF : Hid (Below w.heap.size w v4) := ((HB1.out.trans HB2.out).trans HB3.out).trans (hb4.mono HI3.out.size)
  clear hb4 HB1 HB2 HB3 HI1 HI2 HI3
  go_wp2_with fail
  go_ret
  exact ⟨rfl, HF.out⟩

set_option maxHeartbeats 1000000 in
theorem back_1_far (addr x other : Int) (h0 : 0 ≤ addr) (h1 : addr + 1 ≤ 16384) (x0 : 0 ≤ x) (x1 : x < 18446744073709551616) (t0 : 0 ≤ other) (t1 : other < 18446744073709551616) (co : 16384 ≤ other) (w : World) :
    Calls Try.prog 5 #[.int .u64 addr, .int .i64 1, .int .u64 x, .int .u64 other] w fun e w' => e = .returned (.bool true) ∧ Below w.heap.size w w' := by
  have hmx : (100 : Nat) < maxLen := by unfold maxLen; decide
  obtain ⟨M1, hM1⟩ : ∃ M1, mset (fun _ => 0) addr 1 x = M1 := ⟨_, rfl⟩
  have l1 : ld M1 addr (1 : Int).toNat = x % 256 := by
    rw [← hM1]; rw [show (1 : Int).toNat = 1 from rfl, ld_mset_low _ _ _ _ x0 1 (by omega)]; rfl
  have lb : ∀ j : Int, 0 ≤ j → j < 1 → ld M1 (addr + j) (1 : Int).toNat = x / 2 ^ (8 * j).toNat % 256 := by
    intro j j0 j1
    rw [ld_one, ← hM1]; unfold mset
    rw [if_pos (by omega), show (addr + j - addr).toNat = j.toNat by omega, show (8 * j).toNat = 8 * j.toNat by omega, pow256]
  have S1 := st_at (B := w.heap.size) (rb := w.heap.size + 1) (has := hasF 4) (F := 4) (fun _ => 0) 0 addr 1 x (by omega) h0 (by omega) (chk_in (by omega) h0 (by omega) (by omega)) x0 x1
  have O1 := ld_at (B := w.heap.size) (rb := w.heap.size + 1) (has := hasF 4) (F := 4) M1 2 addr 1 (x % 256) h0 (by omega) (chk_in (by omega) h0 (by omega) (by omega)) l1
  have OJ : Hid (∀ j : Int, 0 ≤ j → j < 1 → Hid (∀ w1 : World, IsRam w1 w.heap.size (w.heap.size + 1) (hasF 4) 4 M1 2 → Calls Try.prog 19 #[.pointer (some ⟨w.heap.size + 1, 0, none⟩), .int .u64 (addr + j), .int .i64 1] w1 fun e w' => e = .returned (.tuple #[.int .u64 (x / 2 ^ (8 * j).toNat % 256), .int .i64 0]) ∧ IsRam w' w.heap.size (w.heap.size + 1) (hasF 4) 4 M1 2 ∧ Below w.heap.size w1 w')) := by
    intro j j0 j1
    exact ld_at M1 2 (addr + j) 1 _ (by omega) (by omega) (chk_in (by omega) (by omega) (by omega) (by omega)) (lb j j0 j1)
  have OT := le_at (B := w.heap.size) (rb := w.heap.size + 1) (has := hasF 4) (F := 4) M1 2 other 1 2 t0 t1 (chk_bus (F := 4) t0 t1 (by omega)) (by omega)
  rw [hM1] at S1
  have nw := nw_at 4 (by omega) (by omega)
  have hnil := nil_no
  clear hM1 l1 lb hmx
  go_enter Try.func5, Try.ntmps5
  go_wp2_with fail
  refine (nw.out _).mono ?_
  rintro e v1 ⟨rfl, hI1, hb1⟩
  have HI1 : Hid (IsRam v1 w.heap.size (w.heap.size + 1) (hasF 4) 4 (fun _ => 0) 0) := hI1
  have HB1 : Hid (Below w.heap.size w v1) := hb1
  clear hI1 hb1
  go_wp2_with fail
  refine (S1.out _ HI1.out).mono ?_
  rintro e v2 ⟨rfl, hI2, hb2⟩
  have HI2 : Hid (IsRam v2 w.heap.size (w.heap.size + 1) (hasF 4) 4 M1 2) := hI2
  have HB2 : Hid (Below w.heap.size v1 v2) := hb2
  clear hI2 hb2
  go_wp2_with fail
  refine (O1.out _ HI2.out).mono ?_
  rintro e v3 ⟨rfl, hI3, hb3⟩
  have HI3 : Hid (IsRam v3 w.heap.size (w.heap.size + 1) (hasF 4) 4 M1 2) := hI3
  have HB3 : Hid (Below w.heap.size v2 v3) := hb3
  clear hI3 hb3
  have HC : Hid (Below w.heap.size w v3) := (HB1.out.trans HB2.out).trans HB3.out
  clear HB1 HB2 HB3 HI1 HI2 S1 O1
  go_wp2_with fail
  go_loopw [15] (fun i wr => ∃ j : Int, 0 ≤ j ∧ j ≤ 1 ∧ i = .int .i64 j ∧ Hid (IsRam wr w.heap.size (w.heap.size + 1) (hasF 4) 4 M1 2) ∧ Hid (Below w.heap.size v3 wr)) (fun i _ => (1 - intOf i).toNat)
  case atStart => exact ⟨0, by omega, by omega, rfl, HI3, Below.refl _ _⟩
  case round =>
    obtain ⟨j, j0, j1, rfl, HJ, HK⟩ := hrel
    by_cases cj : j < 1
    · have oj := OJ.out j j0 cj
      obtain ⟨y, hy⟩ : ∃ y : Int, x / 2 ^ (8 * j).toNat = y := ⟨_, rfl⟩
      have y0 : 0 ≤ y := by rw [← hy]; exact Int.ediv_nonneg x0 (Int.le_of_lt (Int.pow_pos (by omega)))
      have y1 : y < 18446744073709551616 := by rw [← hy]; exact Int.lt_of_le_of_lt (Int.ediv_le_self _ x0) x1
      rw [hy] at oj
      go_wp2_with fail
      refine (oj.out _ HJ.out).mono ?_
      rintro e v4 ⟨rfl, hI4, hb4⟩
      have HI4 : Hid (IsRam v4 w.heap.size (w.heap.size + 1) (hasF 4) 4 M1 2) := hI4
      have HB4 : Hid (Below w.heap.size v3 v4) := HK.out.trans hb4
      clear hI4 hb4
      go_wp2_with fail
      exact ⟨⟨j + 1, by omega, by omega, rfl, HI4, HB4⟩, by simp [intOf]; omega⟩
    · have ej : j = 1 := by omega
      subst ej
      go_wp2_with fail
      refine (OT.out _ HJ.out).mono ?_
      rintro e v4 ⟨rfl, hI4, hb4⟩
      have HI4 : Hid (IsRam v4 w.heap.size (w.heap.size + 1) (hasF 4) 4 M1 2) := hI4
      have HB4 : Hid (Below w.heap.size v3 v4) := HK.out.trans hb4
      clear hI4 hb4
      go_wp2_with fail
      refine (awake_any _).mono ?_
      rintro e v5 ⟨rfl, hb5⟩
      have HF : Hid (Below w.heap.size w v5) := (HC.out.trans HB4.out).trans (hb5.mono HI4.out.size)
      clear hb5
      go_wp2_with fail
      go_ret
      exact ⟨rfl, HF.out⟩

set_option maxHeartbeats 1000000 in
theorem back_1_low (addr x other : Int) (h0 : 0 ≤ addr) (h1 : addr + 1 ≤ 16384) (x0 : 0 ≤ x) (x1 : x < 18446744073709551616) (t0 : 0 ≤ other) (t1 : other < 18446744073709551616) (co : other < addr) (w : World) :
    Calls Try.prog 5 #[.int .u64 addr, .int .i64 1, .int .u64 x, .int .u64 other] w fun e w' => e = .returned (.bool true) ∧ Below w.heap.size w w' := by
  have hmx : (100 : Nat) < maxLen := by unfold maxLen; decide
  obtain ⟨M1, hM1⟩ : ∃ M1, mset (fun _ => 0) addr 1 x = M1 := ⟨_, rfl⟩
  have l1 : ld M1 addr (1 : Int).toNat = x % 256 := by
    rw [← hM1]; rw [show (1 : Int).toNat = 1 from rfl, ld_mset_low _ _ _ _ x0 1 (by omega)]; rfl
  have lb : ∀ j : Int, 0 ≤ j → j < 1 → ld M1 (addr + j) (1 : Int).toNat = x / 2 ^ (8 * j).toNat % 256 := by
    intro j j0 j1
    rw [ld_one, ← hM1]; unfold mset
    rw [if_pos (by omega), show (addr + j - addr).toNat = j.toNat by omega, show (8 * j).toNat = 8 * j.toNat by omega, pow256]
  have S1 := st_at (B := w.heap.size) (rb := w.heap.size + 1) (has := hasF 4) (F := 4) (fun _ => 0) 0 addr 1 x (by omega) h0 (by omega) (chk_in (by omega) h0 (by omega) (by omega)) x0 x1
  have O1 := ld_at (B := w.heap.size) (rb := w.heap.size + 1) (has := hasF 4) (F := 4) M1 2 addr 1 (x % 256) h0 (by omega) (chk_in (by omega) h0 (by omega) (by omega)) l1
  have OJ : Hid (∀ j : Int, 0 ≤ j → j < 1 → Hid (∀ w1 : World, IsRam w1 w.heap.size (w.heap.size + 1) (hasF 4) 4 M1 2 → Calls Try.prog 19 #[.pointer (some ⟨w.heap.size + 1, 0, none⟩), .int .u64 (addr + j), .int .i64 1] w1 fun e w' => e = .returned (.tuple #[.int .u64 (x / 2 ^ (8 * j).toNat % 256), .int .i64 0]) ∧ IsRam w' w.heap.size (w.heap.size + 1) (hasF 4) 4 M1 2 ∧ Below w.heap.size w1 w')) := by
    intro j j0 j1
    exact ld_at M1 2 (addr + j) 1 _ (by omega) (by omega) (chk_in (by omega) (by omega) (by omega) (by omega)) (lb j j0 j1)
  have OT := ld_at (B := w.heap.size) (rb := w.heap.size + 1) (has := hasF 4) (F := 4) M1 2 other 1 (0) t0 t1 (chk_in (by omega) t0 (by omega) (by omega)) (by rw [ld_one, ← hM1]; unfold mset; rw [if_neg (by omega)])
  rw [hM1] at S1
  have nw := nw_at 4 (by omega) (by omega)
  have hnil := nil_no
  clear hM1 l1 lb hmx
  go_enter Try.func5, Try.ntmps5
  go_wp2_with fail
  refine (nw.out _).mono ?_
  rintro e v1 ⟨rfl, hI1, hb1⟩
  have HI1 : Hid (IsRam v1 w.heap.size (w.heap.size + 1) (hasF 4) 4 (fun _ => 0) 0) := hI1
  have HB1 : Hid (Below w.heap.size w v1) := hb1
  clear hI1 hb1
  go_wp2_with fail
  refine (S1.out _ HI1.out).mono ?_
  rintro e v2 ⟨rfl, hI2, hb2⟩
  have HI2 : Hid (IsRam v2 w.heap.size (w.heap.size + 1) (hasF 4) 4 M1 2) := hI2
  have HB2 : Hid (Below w.heap.size v1 v2) := hb2
  clear hI2 hb2
  go_wp2_with fail
  refine (O1.out _ HI2.out).mono ?_
  rintro e v3 ⟨rfl, hI3, hb3⟩
  have HI3 : Hid (IsRam v3 w.heap.size (w.heap.size + 1) (hasF 4) 4 M1 2) := hI3
  have HB3 : Hid (Below w.heap.size v2 v3) := hb3
  clear hI3 hb3
  have HC : Hid (Below w.heap.size w v3) := (HB1.out.trans HB2.out).trans HB3.out
  clear HB1 HB2 HB3 HI1 HI2 S1 O1
  go_wp2_with fail
  go_loopw [15] (fun i wr => ∃ j : Int, 0 ≤ j ∧ j ≤ 1 ∧ i = .int .i64 j ∧ Hid (IsRam wr w.heap.size (w.heap.size + 1) (hasF 4) 4 M1 2) ∧ Hid (Below w.heap.size v3 wr)) (fun i _ => (1 - intOf i).toNat)
  case atStart => exact ⟨0, by omega, by omega, rfl, HI3, Below.refl _ _⟩
  case round =>
    obtain ⟨j, j0, j1, rfl, HJ, HK⟩ := hrel
    by_cases cj : j < 1
    · have oj := OJ.out j j0 cj
      obtain ⟨y, hy⟩ : ∃ y : Int, x / 2 ^ (8 * j).toNat = y := ⟨_, rfl⟩
      have y0 : 0 ≤ y := by rw [← hy]; exact Int.ediv_nonneg x0 (Int.le_of_lt (Int.pow_pos (by omega)))
      have y1 : y < 18446744073709551616 := by rw [← hy]; exact Int.lt_of_le_of_lt (Int.ediv_le_self _ x0) x1
      rw [hy] at oj
      go_wp2_with fail
      refine (oj.out _ HJ.out).mono ?_
      rintro e v4 ⟨rfl, hI4, hb4⟩
      have HI4 : Hid (IsRam v4 w.heap.size (w.heap.size + 1) (hasF 4) 4 M1 2) := hI4
      have HB4 : Hid (Below w.heap.size v3 v4) := HK.out.trans hb4
      clear hI4 hb4
      go_wp2_with fail
      exact ⟨⟨j + 1, by omega, by omega, rfl, HI4, HB4⟩, by simp [intOf]; omega⟩
    · have ej : j = 1 := by omega
      subst ej
      go_wp2_with fail
      refine (OT.out _ HJ.out).mono ?_
      rintro e v4 ⟨rfl, hI4, hb4⟩
      have HI4 : Hid (IsRam v4 w.heap.size (w.heap.size + 1) (hasF 4) 4 M1 2) := hI4
      have HB4 : Hid (Below w.heap.size v3 v4) := HK.out.trans hb4
      clear hI4 hb4
      go_wp2_with fail
      refine (awake_any _).mono ?_
      rintro e v5 ⟨rfl, hb5⟩
      have HF : Hid (Below w.heap.size w v5) := (HC.out.trans HB4.out).trans (hb5.mono HI4.out.size)
      clear hb5
      go_wp2_with fail
      go_ret
      exact ⟨rfl, HF.out⟩

set_option maxHeartbeats 1000000 in
theorem back_1_high (addr x other : Int) (h0 : 0 ≤ addr) (h1 : addr + 1 ≤ 16384) (x0 : 0 ≤ x) (x1 : x < 18446744073709551616) (t0 : 0 ≤ other) (t1 : other < 18446744073709551616) (co : addr + 1 ≤ other) (co2 : other < 16384) (w : World) :
    Calls Try.prog 5 #[.int .u64 addr, .int .i64 1, .int .u64 x, .int .u64 other] w fun e w' => e = .returned (.bool true) ∧ Below w.heap.size w w' := by
  have hmx : (100 : Nat) < maxLen := by unfold maxLen; decide
  obtain ⟨M1, hM1⟩ : ∃ M1, mset (fun _ => 0) addr 1 x = M1 := ⟨_, rfl⟩
  have l1 : ld M1 addr (1 : Int).toNat = x % 256 := by
    rw [← hM1]; rw [show (1 : Int).toNat = 1 from rfl, ld_mset_low _ _ _ _ x0 1 (by omega)]; rfl
  have lb : ∀ j : Int, 0 ≤ j → j < 1 → ld M1 (addr + j) (1 : Int).toNat = x / 2 ^ (8 * j).toNat % 256 := by
    intro j j0 j1
    rw [ld_one, ← hM1]; unfold mset
    rw [if_pos (by omega), show (addr + j - addr).toNat = j.toNat by omega, show (8 * j).toNat = 8 * j.toNat by omega, pow256]
  have S1 := st_at (B := w.heap.size) (rb := w.heap.size + 1) (has := hasF 4) (F := 4) (fun _ => 0) 0 addr 1 x (by omega) h0 (by omega) (chk_in (by omega) h0 (by omega) (by omega)) x0 x1
  have O1 := ld_at (B := w.heap.size) (rb := w.heap.size + 1) (has := hasF 4) (F := 4) M1 2 addr 1 (x % 256) h0 (by omega) (chk_in (by omega) h0 (by omega) (by omega)) l1
  have OJ : Hid (∀ j : Int, 0 ≤ j → j < 1 → Hid (∀ w1 : World, IsRam w1 w.heap.size (w.heap.size + 1) (hasF 4) 4 M1 2 → Calls Try.prog 19 #[.pointer (some ⟨w.heap.size + 1, 0, none⟩), .int .u64 (addr + j), .int .i64 1] w1 fun e w' => e = .returned (.tuple #[.int .u64 (x / 2 ^ (8 * j).toNat % 256), .int .i64 0]) ∧ IsRam w' w.heap.size (w.heap.size + 1) (hasF 4) 4 M1 2 ∧ Below w.heap.size w1 w')) := by
    intro j j0 j1
    exact ld_at M1 2 (addr + j) 1 _ (by omega) (by omega) (chk_in (by omega) (by omega) (by omega) (by omega)) (lb j j0 j1)
  have OT := ld_at (B := w.heap.size) (rb := w.heap.size + 1) (has := hasF 4) (F := 4) M1 2 other 1 (0) t0 t1 (chk_in (by omega) t0 (by omega) (by omega)) (by rw [ld_one, ← hM1]; unfold mset; rw [if_neg (by omega)])
  rw [hM1] at S1
  have nw := nw_at 4 (by omega) (by omega)
  have hnil := nil_no
  clear hM1 l1 lb hmx
  go_enter Try.func5, Try.ntmps5
  go_wp2_with fail
  refine (nw.out _).mono ?_
  rintro e v1 ⟨rfl, hI1, hb1⟩
  have HI1 : Hid (IsRam v1 w.heap.size (w.heap.size + 1) (hasF 4) 4 (fun _ => 0) 0) := hI1
  have HB1 : Hid (Below w.heap.size w v1) := hb1
  clear hI1 hb1
  go_wp2_with fail
  refine (S1.out _ HI1.out).mono ?_
  rintro e v2 ⟨rfl, hI2, hb2⟩
  have HI2 : Hid (IsRam v2 w.heap.size (w.heap.size + 1) (hasF 4) 4 M1 2) := hI2
  have HB2 : Hid (Below w.heap.size v1 v2) := hb2
  clear hI2 hb2
  go_wp2_with fail
  refine (O1.out _ HI2.out).mono ?_
  rintro e v3 ⟨rfl, hI3, hb3⟩
  have HI3 : Hid (IsRam v3 w.heap.size (w.heap.size + 1) (hasF 4) 4 M1 2) := hI3
  have HB3 : Hid (Below w.heap.size v2 v3) := hb3
  clear hI3 hb3
  have HC : Hid (Below w.heap.size w v3) := (HB1.out.trans HB2.out).trans HB3.out
  clear HB1 HB2 HB3 HI1 HI2 S1 O1
  go_wp2_with fail
  go_loopw [15] (fun i wr => ∃ j : Int, 0 ≤ j ∧ j ≤ 1 ∧ i = .int .i64 j ∧ Hid (IsRam wr w.heap.size (w.heap.size + 1) (hasF 4) 4 M1 2) ∧ Hid (Below w.heap.size v3 wr)) (fun i _ => (1 - intOf i).toNat)
  case atStart => exact ⟨0, by omega, by omega, rfl, HI3, Below.refl _ _⟩
  case round =>
    obtain ⟨j, j0, j1, rfl, HJ, HK⟩ := hrel
    by_cases cj : j < 1
    · have oj := OJ.out j j0 cj
      obtain ⟨y, hy⟩ : ∃ y : Int, x / 2 ^ (8 * j).toNat = y := ⟨_, rfl⟩
      have y0 : 0 ≤ y := by rw [← hy]; exact Int.ediv_nonneg x0 (Int.le_of_lt (Int.pow_pos (by omega)))
      have y1 : y < 18446744073709551616 := by rw [← hy]; exact Int.lt_of_le_of_lt (Int.ediv_le_self _ x0) x1
      rw [hy] at oj
      go_wp2_with fail
      refine (oj.out _ HJ.out).mono ?_
      rintro e v4 ⟨rfl, hI4, hb4⟩
      have HI4 : Hid (IsRam v4 w.heap.size (w.heap.size + 1) (hasF 4) 4 M1 2) := hI4
      have HB4 : Hid (Below w.heap.size v3 v4) := HK.out.trans hb4
      clear hI4 hb4
      go_wp2_with fail
      exact ⟨⟨j + 1, by omega, by omega, rfl, HI4, HB4⟩, by simp [intOf]; omega⟩
    · have ej : j = 1 := by omega
      subst ej
      go_wp2_with fail
      refine (OT.out _ HJ.out).mono ?_
      rintro e v4 ⟨rfl, hI4, hb4⟩
      have HI4 : Hid (IsRam v4 w.heap.size (w.heap.size + 1) (hasF 4) 4 M1 2) := hI4
      have HB4 : Hid (Below w.heap.size v3 v4) := HK.out.trans hb4
      clear hI4 hb4
      go_wp2_with fail
      refine (awake_any _).mono ?_
      rintro e v5 ⟨rfl, hb5⟩
      have HF : Hid (Below w.heap.size w v5) := (HC.out.trans HB4.out).trans (hb5.mono HI4.out.size)
      clear hb5
      go_wp2_with fail
      go_ret
      exact ⟨rfl, HF.out⟩

set_option maxHeartbeats 1000000 in
theorem back_1_in (addr x other : Int) (h0 : 0 ≤ addr) (h1 : addr + 1 ≤ 16384) (x0 : 0 ≤ x) (x1 : x < 18446744073709551616) (t0 : 0 ≤ other) (t1 : other < 18446744073709551616) (co : addr ≤ other) (co2 : other < addr + 1) (w : World) :
    Calls Try.prog 5 #[.int .u64 addr, .int .i64 1, .int .u64 x, .int .u64 other] w fun e w' => e = .returned (.bool true) ∧ Below w.heap.size w w' := by
  have hmx : (100 : Nat) < maxLen := by unfold maxLen; decide
  obtain ⟨M1, hM1⟩ : ∃ M1, mset (fun _ => 0) addr 1 x = M1 := ⟨_, rfl⟩
  have l1 : ld M1 addr (1 : Int).toNat = x % 256 := by
    rw [← hM1]; rw [show (1 : Int).toNat = 1 from rfl, ld_mset_low _ _ _ _ x0 1 (by omega)]; rfl
  have lb : ∀ j : Int, 0 ≤ j → j < 1 → ld M1 (addr + j) (1 : Int).toNat = x / 2 ^ (8 * j).toNat % 256 := by
    intro j j0 j1
    rw [ld_one, ← hM1]; unfold mset
    rw [if_pos (by omega), show (addr + j - addr).toNat = j.toNat by omega, show (8 * j).toNat = 8 * j.toNat by omega, pow256]
  have S1 := st_at (B := w.heap.size) (rb := w.heap.size + 1) (has := hasF 4) (F := 4) (fun _ => 0) 0 addr 1 x (by omega) h0 (by omega) (chk_in (by omega) h0 (by omega) (by omega)) x0 x1
  have O1 := ld_at (B := w.heap.size) (rb := w.heap.size + 1) (has := hasF 4) (F := 4) M1 2 addr 1 (x % 256) h0 (by omega) (chk_in (by omega) h0 (by omega) (by omega)) l1
  have OJ : Hid (∀ j : Int, 0 ≤ j → j < 1 → Hid (∀ w1 : World, IsRam w1 w.heap.size (w.heap.size + 1) (hasF 4) 4 M1 2 → Calls Try.prog 19 #[.pointer (some ⟨w.heap.size + 1, 0, none⟩), .int .u64 (addr + j), .int .i64 1] w1 fun e w' => e = .returned (.tuple #[.int .u64 (x / 2 ^ (8 * j).toNat % 256), .int .i64 0]) ∧ IsRam w' w.heap.size (w.heap.size + 1) (hasF 4) 4 M1 2 ∧ Below w.heap.size w1 w')) := by
    intro j j0 j1
    exact ld_at M1 2 (addr + j) 1 _ (by omega) (by omega) (chk_in (by omega) (by omega) (by omega) (by omega)) (lb j j0 j1)
  obtain ⟨u, hu⟩ : ∃ u : Int, M1 other = u := ⟨_, rfl⟩
  have OT := ld_at (B := w.heap.size) (rb := w.heap.size + 1) (has := hasF 4) (F := 4) M1 2 other 1 (u) t0 t1 (chk_in (by omega) t0 (by omega) (by omega)) (by rw [ld_one]; exact hu)
  rw [hM1] at S1
  have nw := nw_at 4 (by omega) (by omega)
  have hnil := nil_no
  clear hM1 l1 lb hmx hu
  go_enter Try.func5, Try.ntmps5
  go_wp2_with fail
  refine (nw.out _).mono ?_
  rintro e v1 ⟨rfl, hI1, hb1⟩
  have HI1 : Hid (IsRam v1 w.heap.size (w.heap.size + 1) (hasF 4) 4 (fun _ => 0) 0) := hI1
  have HB1 : Hid (Below w.heap.size w v1) := hb1
  clear hI1 hb1
  go_wp2_with fail
  refine (S1.out _ HI1.out).mono ?_
  rintro e v2 ⟨rfl, hI2, hb2⟩
  have HI2 : Hid (IsRam v2 w.heap.size (w.heap.size + 1) (hasF 4) 4 M1 2) := hI2
  have HB2 : Hid (Below w.heap.size v1 v2) := hb2
  clear hI2 hb2
  go_wp2_with fail
  refine (O1.out _ HI2.out).mono ?_
  rintro e v3 ⟨rfl, hI3, hb3⟩
  have HI3 : Hid (IsRam v3 w.heap.size (w.heap.size + 1) (hasF 4) 4 M1 2) := hI3
  have HB3 : Hid (Below w.heap.size v2 v3) := hb3
  clear hI3 hb3
  have HC : Hid (Below w.heap.size w v3) := (HB1.out.trans HB2.out).trans HB3.out
  clear HB1 HB2 HB3 HI1 HI2 S1 O1
  go_wp2_with fail
  go_loopw [15] (fun i wr => ∃ j : Int, 0 ≤ j ∧ j ≤ 1 ∧ i = .int .i64 j ∧ Hid (IsRam wr w.heap.size (w.heap.size + 1) (hasF 4) 4 M1 2) ∧ Hid (Below w.heap.size v3 wr)) (fun i _ => (1 - intOf i).toNat)
  case atStart => exact ⟨0, by omega, by omega, rfl, HI3, Below.refl _ _⟩
  case round =>
    obtain ⟨j, j0, j1, rfl, HJ, HK⟩ := hrel
    by_cases cj : j < 1
    · have oj := OJ.out j j0 cj
      obtain ⟨y, hy⟩ : ∃ y : Int, x / 2 ^ (8 * j).toNat = y := ⟨_, rfl⟩
      have y0 : 0 ≤ y := by rw [← hy]; exact Int.ediv_nonneg x0 (Int.le_of_lt (Int.pow_pos (by omega)))
      have y1 : y < 18446744073709551616 := by rw [← hy]; exact Int.lt_of_le_of_lt (Int.ediv_le_self _ x0) x1
      rw [hy] at oj
      go_wp2_with fail
      refine (oj.out _ HJ.out).mono ?_
      rintro e v4 ⟨rfl, hI4, hb4⟩
      have HI4 : Hid (IsRam v4 w.heap.size (w.heap.size + 1) (hasF 4) 4 M1 2) := hI4
      have HB4 : Hid (Below w.heap.size v3 v4) := HK.out.trans hb4
      clear hI4 hb4
      go_wp2_with fail
      exact ⟨⟨j + 1, by omega, by omega, rfl, HI4, HB4⟩, by simp [intOf]; omega⟩
    · have ej : j = 1 := by omega
      subst ej
      go_wp2_with fail
      refine (OT.out _ HJ.out).mono ?_
      rintro e v4 ⟨rfl, hI4, hb4⟩
      have HI4 : Hid (IsRam v4 w.heap.size (w.heap.size + 1) (hasF 4) 4 M1 2) := hI4
      have HB4 : Hid (Below w.heap.size v3 v4) := HK.out.trans hb4
      clear hI4 hb4
      go_wp2_with fail
      refine (awake_any _).mono ?_
      rintro e v5 ⟨rfl, hb5⟩
      have HF : Hid (Below w.heap.size w v5) := (HC.out.trans HB4.out).trans (hb5.mono HI4.out.size)
      clear hb5
      go_wp2_with fail
      go_ret
      exact ⟨rfl, HF.out⟩

set_option maxHeartbeats 1000000 in
theorem back_2_far (addr x other : Int) (h0 : 0 ≤ addr) (h1 : addr + 2 ≤ 16384) (x0 : 0 ≤ x) (x1 : x < 18446744073709551616) (t0 : 0 ≤ other) (t1 : other < 18446744073709551616) (co : 16384 ≤ other) (w : World) :
    Calls Try.prog 5 #[.int .u64 addr, .int .i64 2, .int .u64 x, .int .u64 other] w fun e w' => e = .returned (.bool true) ∧ Below w.heap.size w w' := by
  have hmx : (100 : Nat) < maxLen := by unfold maxLen; decide
  obtain ⟨M1, hM1⟩ : ∃ M1, mset (fun _ => 0) addr 2 x = M1 := ⟨_, rfl⟩
  have l1 : ld M1 addr (2 : Int).toNat = x % 65536 := by
    rw [← hM1]; rw [show (2 : Int).toNat = 2 from rfl, ld_mset_low _ _ _ _ x0 2 (by omega)]; rfl
  have lb : ∀ j : Int, 0 ≤ j → j < 2 → ld M1 (addr + j) (1 : Int).toNat = x / 2 ^ (8 * j).toNat % 256 := by
    intro j j0 j1
    rw [ld_one, ← hM1]; unfold mset
    rw [if_pos (by omega), show (addr + j - addr).toNat = j.toNat by omega, show (8 * j).toNat = 8 * j.toNat by omega, pow256]
  have S1 := st_at (B := w.heap.size) (rb := w.heap.size + 1) (has := hasF 4) (F := 4) (fun _ => 0) 0 addr 2 x (by omega) h0 (by omega) (chk_in (by omega) h0 (by omega) (by omega)) x0 x1
  have O1 := ld_at (B := w.heap.size) (rb := w.heap.size + 1) (has := hasF 4) (F := 4) M1 2 addr 2 (x % 65536) h0 (by omega) (chk_in (by omega) h0 (by omega) (by omega)) l1
  have OJ : Hid (∀ j : Int, 0 ≤ j → j < 2 → Hid (∀ w1 : World, IsRam w1 w.heap.size (w.heap.size + 1) (hasF 4) 4 M1 2 → Calls Try.prog 19 #[.pointer (some ⟨w.heap.size + 1, 0, none⟩), .int .u64 (addr + j), .int .i64 1] w1 fun e w' => e = .returned (.tuple #[.int .u64 (x / 2 ^ (8 * j).toNat % 256), .int .i64 0]) ∧ IsRam w' w.heap.size (w.heap.size + 1) (hasF 4) 4 M1 2 ∧ Below w.heap.size w1 w')) := by
    intro j j0 j1
    exact ld_at M1 2 (addr + j) 1 _ (by omega) (by omega) (chk_in (by omega) (by omega) (by omega) (by omega)) (lb j j0 j1)
  have OT := le_at (B := w.heap.size) (rb := w.heap.size + 1) (has := hasF 4) (F := 4) M1 2 other 1 2 t0 t1 (chk_bus (F := 4) t0 t1 (by omega)) (by omega)
  rw [hM1] at S1
  have nw := nw_at 4 (by omega) (by omega)
  have hnil := nil_no
  clear hM1 l1 lb hmx
  go_enter Try.func5, Try.ntmps5
  go_wp2_with fail
  refine (nw.out _).mono ?_
  rintro e v1 ⟨rfl, hI1, hb1⟩
  have HI1 : Hid (IsRam v1 w.heap.size (w.heap.size + 1) (hasF 4) 4 (fun _ => 0) 0) := hI1
  have HB1 : Hid (Below w.heap.size w v1) := hb1
  clear hI1 hb1
  go_wp2_with fail
  refine (S1.out _ HI1.out).mono ?_
  rintro e v2 ⟨rfl, hI2, hb2⟩
  have HI2 : Hid (IsRam v2 w.heap.size (w.heap.size + 1) (hasF 4) 4 M1 2) := hI2
  have HB2 : Hid (Below w.heap.size v1 v2) := hb2
  clear hI2 hb2
  go_wp2_with fail
  refine (O1.out _ HI2.out).mono ?_
  rintro e v3 ⟨rfl, hI3, hb3⟩
  have HI3 : Hid (IsRam v3 w.heap.size (w.heap.size + 1) (hasF 4) 4 M1 2) := hI3
  have HB3 : Hid (Below w.heap.size v2 v3) := hb3
  clear hI3 hb3
  have HC : Hid (Below w.heap.size w v3) := (HB1.out.trans HB2.out).trans HB3.out
  clear HB1 HB2 HB3 HI1 HI2 S1 O1
  go_wp2_with fail
  go_loopw [15] (fun i wr => ∃ j : Int, 0 ≤ j ∧ j ≤ 2 ∧ i = .int .i64 j ∧ Hid (IsRam wr w.heap.size (w.heap.size + 1) (hasF 4) 4 M1 2) ∧ Hid (Below w.heap.size v3 wr)) (fun i _ => (2 - intOf i).toNat)
  case atStart => exact ⟨0, by omega, by omega, rfl, HI3, Below.refl _ _⟩
  case round =>
    obtain ⟨j, j0, j1, rfl, HJ, HK⟩ := hrel
    by_cases cj : j < 2
    · have oj := OJ.out j j0 cj
      obtain ⟨y, hy⟩ : ∃ y : Int, x / 2 ^ (8 * j).toNat = y := ⟨_, rfl⟩
      have y0 : 0 ≤ y := by rw [← hy]; exact Int.ediv_nonneg x0 (Int.le_of_lt (Int.pow_pos (by omega)))
      have y1 : y < 18446744073709551616 := by rw [← hy]; exact Int.lt_of_le_of_lt (Int.ediv_le_self _ x0) x1
      rw [hy] at oj
      go_wp2_with fail
      refine (oj.out _ HJ.out).mono ?_
      rintro e v4 ⟨rfl, hI4, hb4⟩
      have HI4 : Hid (IsRam v4 w.heap.size (w.heap.size + 1) (hasF 4) 4 M1 2) := hI4
      have HB4 : Hid (Below w.heap.size v3 v4) := HK.out.trans hb4
      clear hI4 hb4
      go_wp2_with fail
      exact ⟨⟨j + 1, by omega, by omega, rfl, HI4, HB4⟩, by simp [intOf]; omega⟩
    · have ej : j = 2 := by omega
      subst ej
      go_wp2_with fail
      refine (OT.out _ HJ.out).mono ?_
      rintro e v4 ⟨rfl, hI4, hb4⟩
      have HI4 : Hid (IsRam v4 w.heap.size (w.heap.size + 1) (hasF 4) 4 M1 2) := hI4
      have HB4 : Hid (Below w.heap.size v3 v4) := HK.out.trans hb4
      clear hI4 hb4
      go_wp2_with fail
      refine (awake_any _).mono ?_
      rintro e v5 ⟨rfl, hb5⟩
      have HF : Hid (Below w.heap.size w v5) := (HC.out.trans HB4.out).trans (hb5.mono HI4.out.size)
      clear hb5
      go_wp2_with fail
      go_ret
      exact ⟨rfl, HF.out⟩

set_option maxHeartbeats 1000000 in
theorem back_2_low (addr x other : Int) (h0 : 0 ≤ addr) (h1 : addr + 2 ≤ 16384) (x0 : 0 ≤ x) (x1 : x < 18446744073709551616) (t0 : 0 ≤ other) (t1 : other < 18446744073709551616) (co : other < addr) (w : World) :
    Calls Try.prog 5 #[.int .u64 addr, .int .i64 2, .int .u64 x, .int .u64 other] w fun e w' => e = .returned (.bool true) ∧ Below w.heap.size w w' := by
  have hmx : (100 : Nat) < maxLen := by unfold maxLen; decide
  obtain ⟨M1, hM1⟩ : ∃ M1, mset (fun _ => 0) addr 2 x = M1 := ⟨_, rfl⟩
  have l1 : ld M1 addr (2 : Int).toNat = x % 65536 := by
    rw [← hM1]; rw [show (2 : Int).toNat = 2 from rfl, ld_mset_low _ _ _ _ x0 2 (by omega)]; rfl
  have lb : ∀ j : Int, 0 ≤ j → j < 2 → ld M1 (addr + j) (1 : Int).toNat = x / 2 ^ (8 * j).toNat % 256 := by
    intro j j0 j1
    rw [ld_one, ← hM1]; unfold mset
    rw [if_pos (by omega), show (addr + j - addr).toNat = j.toNat by omega, show (8 * j).toNat = 8 * j.toNat by omega, pow256]
  have S1 := st_at (B := w.heap.size) (rb := w.heap.size + 1) (has := hasF 4) (F := 4) (fun _ => 0) 0 addr 2 x (by omega) h0 (by omega) (chk_in (by omega) h0 (by omega) (by omega)) x0 x1
  have O1 := ld_at (B := w.heap.size) (rb := w.heap.size + 1) (has := hasF 4) (F := 4) M1 2 addr 2 (x % 65536) h0 (by omega) (chk_in (by omega) h0 (by omega) (by omega)) l1
  have OJ : Hid (∀ j : Int, 0 ≤ j → j < 2 → Hid (∀ w1 : World, IsRam w1 w.heap.size (w.heap.size + 1) (hasF 4) 4 M1 2 → Calls Try.prog 19 #[.pointer (some ⟨w.heap.size + 1, 0, none⟩), .int .u64 (addr + j), .int .i64 1] w1 fun e w' => e = .returned (.tuple #[.int .u64 (x / 2 ^ (8 * j).toNat % 256), .int .i64 0]) ∧ IsRam w' w.heap.size (w.heap.size + 1) (hasF 4) 4 M1 2 ∧ Below w.heap.size w1 w')) := by
    intro j j0 j1
    exact ld_at M1 2 (addr + j) 1 _ (by omega) (by omega) (chk_in (by omega) (by omega) (by omega) (by omega)) (lb j j0 j1)
  have OT := ld_at (B := w.heap.size) (rb := w.heap.size + 1) (has := hasF 4) (F := 4) M1 2 other 1 (0) t0 t1 (chk_in (by omega) t0 (by omega) (by omega)) (by rw [ld_one, ← hM1]; unfold mset; rw [if_neg (by omega)])
  rw [hM1] at S1
  have nw := nw_at 4 (by omega) (by omega)
  have hnil := nil_no
  clear hM1 l1 lb hmx
  go_enter Try.func5, Try.ntmps5
  go_wp2_with fail
  refine (nw.out _).mono ?_
  rintro e v1 ⟨rfl, hI1, hb1⟩
  have HI1 : Hid (IsRam v1 w.heap.size (w.heap.size + 1) (hasF 4) 4 (fun _ => 0) 0) := hI1
  have HB1 : Hid (Below w.heap.size w v1) := hb1
  clear hI1 hb1
  go_wp2_with fail
  refine (S1.out _ HI1.out).mono ?_
  rintro e v2 ⟨rfl, hI2, hb2⟩
  have HI2 : Hid (IsRam v2 w.heap.size (w.heap.size + 1) (hasF 4) 4 M1 2) := hI2
  have HB2 : Hid (Below w.heap.size v1 v2) := hb2
  clear hI2 hb2
  go_wp2_with fail
  refine (O1.out _ HI2.out).mono ?_
  rintro e v3 ⟨rfl, hI3, hb3⟩
  have HI3 : Hid (IsRam v3 w.heap.size (w.heap.size + 1) (hasF 4) 4 M1 2) := hI3
  have HB3 : Hid (Below w.heap.size v2 v3) := hb3
  clear hI3 hb3
  have HC : Hid (Below w.heap.size w v3) := (HB1.out.trans HB2.out).trans HB3.out
  clear HB1 HB2 HB3 HI1 HI2 S1 O1
  go_wp2_with fail
  go_loopw [15] (fun i wr => ∃ j : Int, 0 ≤ j ∧ j ≤ 2 ∧ i = .int .i64 j ∧ Hid (IsRam wr w.heap.size (w.heap.size + 1) (hasF 4) 4 M1 2) ∧ Hid (Below w.heap.size v3 wr)) (fun i _ => (2 - intOf i).toNat)
  case atStart => exact ⟨0, by omega, by omega, rfl, HI3, Below.refl _ _⟩
  case round =>
    obtain ⟨j, j0, j1, rfl, HJ, HK⟩ := hrel
    by_cases cj : j < 2
    · have oj := OJ.out j j0 cj
      obtain ⟨y, hy⟩ : ∃ y : Int, x / 2 ^ (8 * j).toNat = y := ⟨_, rfl⟩
      have y0 : 0 ≤ y := by rw [← hy]; exact Int.ediv_nonneg x0 (Int.le_of_lt (Int.pow_pos (by omega)))
      have y1 : y < 18446744073709551616 := by rw [← hy]; exact Int.lt_of_le_of_lt (Int.ediv_le_self _ x0) x1
      rw [hy] at oj
      go_wp2_with fail
      refine (oj.out _ HJ.out).mono ?_
      rintro e v4 ⟨rfl, hI4, hb4⟩
      have HI4 : Hid (IsRam v4 w.heap.size (w.heap.size + 1) (hasF 4) 4 M1 2) := hI4
      have HB4 : Hid (Below w.heap.size v3 v4) := HK.out.trans hb4
      clear hI4 hb4
      go_wp2_with fail
      exact ⟨⟨j + 1, by omega, by omega, rfl, HI4, HB4⟩, by simp [intOf]; omega⟩
    · have ej : j = 2 := by omega
      subst ej
      go_wp2_with fail
      refine (OT.out _ HJ.out).mono ?_
      rintro e v4 ⟨rfl, hI4, hb4⟩
      have HI4 : Hid (IsRam v4 w.heap.size (w.heap.size + 1) (hasF 4) 4 M1 2) := hI4
      have HB4 : Hid (Below w.heap.size v3 v4) := HK.out.trans hb4
      clear hI4 hb4
      go_wp2_with fail
      refine (awake_any _).mono ?_
      rintro e v5 ⟨rfl, hb5⟩
      have HF : Hid (Below w.heap.size w v5) := (HC.out.trans HB4.out).trans (hb5.mono HI4.out.size)
      clear hb5
      go_wp2_with fail
      go_ret
      exact ⟨rfl, HF.out⟩

set_option maxHeartbeats 1000000 in
theorem back_2_high (addr x other : Int) (h0 : 0 ≤ addr) (h1 : addr + 2 ≤ 16384) (x0 : 0 ≤ x) (x1 : x < 18446744073709551616) (t0 : 0 ≤ other) (t1 : other < 18446744073709551616) (co : addr + 2 ≤ other) (co2 : other < 16384) (w : World) :
    Calls Try.prog 5 #[.int .u64 addr, .int .i64 2, .int .u64 x, .int .u64 other] w fun e w' => e = .returned (.bool true) ∧ Below w.heap.size w w' := by
  have hmx : (100 : Nat) < maxLen := by unfold maxLen; decide
  obtain ⟨M1, hM1⟩ : ∃ M1, mset (fun _ => 0) addr 2 x = M1 := ⟨_, rfl⟩
  have l1 : ld M1 addr (2 : Int).toNat = x % 65536 := by
    rw [← hM1]; rw [show (2 : Int).toNat = 2 from rfl, ld_mset_low _ _ _ _ x0 2 (by omega)]; rfl
  have lb : ∀ j : Int, 0 ≤ j → j < 2 → ld M1 (addr + j) (1 : Int).toNat = x / 2 ^ (8 * j).toNat % 256 := by
    intro j j0 j1
    rw [ld_one, ← hM1]; unfold mset
    rw [if_pos (by omega), show (addr + j - addr).toNat = j.toNat by omega, show (8 * j).toNat = 8 * j.toNat by omega, pow256]
  have S1 := st_at (B := w.heap.size) (rb := w.heap.size + 1) (has := hasF 4) (F := 4) (fun _ => 0) 0 addr 2 x (by omega) h0 (by omega) (chk_in (by omega) h0 (by omega) (by omega)) x0 x1
  have O1 := ld_at (B := w.heap.size) (rb := w.heap.size + 1) (has := hasF 4) (F := 4) M1 2 addr 2 (x % 65536) h0 (by omega) (chk_in (by omega) h0 (by omega) (by omega)) l1
  have OJ : Hid (∀ j : Int, 0 ≤ j → j < 2 → Hid (∀ w1 : World, IsRam w1 w.heap.size (w.heap.size + 1) (hasF 4) 4 M1 2 → Calls Try.prog 19 #[.pointer (some ⟨w.heap.size + 1, 0, none⟩), .int .u64 (addr + j), .int .i64 1] w1 fun e w' => e = .returned (.tuple #[.int .u64 (x / 2 ^ (8 * j).toNat % 256), .int .i64 0]) ∧ IsRam w' w.heap.size (w.heap.size + 1) (hasF 4) 4 M1 2 ∧ Below w.heap.size w1 w')) := by
    intro j j0 j1
    exact ld_at M1 2 (addr + j) 1 _ (by omega) (by omega) (chk_in (by omega) (by omega) (by omega) (by omega)) (lb j j0 j1)
  have OT := ld_at (B := w.heap.size) (rb := w.heap.size + 1) (has := hasF 4) (F := 4) M1 2 other 1 (0) t0 t1 (chk_in (by omega) t0 (by omega) (by omega)) (by rw [ld_one, ← hM1]; unfold mset; rw [if_neg (by omega)])
  rw [hM1] at S1
  have nw := nw_at 4 (by omega) (by omega)
  have hnil := nil_no
  clear hM1 l1 lb hmx
  go_enter Try.func5, Try.ntmps5
  go_wp2_with fail
  refine (nw.out _).mono ?_
  rintro e v1 ⟨rfl, hI1, hb1⟩
  have HI1 : Hid (IsRam v1 w.heap.size (w.heap.size + 1) (hasF 4) 4 (fun _ => 0) 0) := hI1
  have HB1 : Hid (Below w.heap.size w v1) := hb1
  clear hI1 hb1
  go_wp2_with fail
  refine (S1.out _ HI1.out).mono ?_
  rintro e v2 ⟨rfl, hI2, hb2⟩
  have HI2 : Hid (IsRam v2 w.heap.size (w.heap.size + 1) (hasF 4) 4 M1 2) := hI2
  have HB2 : Hid (Below w.heap.size v1 v2) := hb2
  clear hI2 hb2
  go_wp2_with fail
  refine (O1.out _ HI2.out).mono ?_
  rintro e v3 ⟨rfl, hI3, hb3⟩
  have HI3 : Hid (IsRam v3 w.heap.size (w.heap.size + 1) (hasF 4) 4 M1 2) := hI3
  have HB3 : Hid (Below w.heap.size v2 v3) := hb3
  clear hI3 hb3
  have HC : Hid (Below w.heap.size w v3) := (HB1.out.trans HB2.out).trans HB3.out
  clear HB1 HB2 HB3 HI1 HI2 S1 O1
  go_wp2_with fail
  go_loopw [15] (fun i wr => ∃ j : Int, 0 ≤ j ∧ j ≤ 2 ∧ i = .int .i64 j ∧ Hid (IsRam wr w.heap.size (w.heap.size + 1) (hasF 4) 4 M1 2) ∧ Hid (Below w.heap.size v3 wr)) (fun i _ => (2 - intOf i).toNat)
  case atStart => exact ⟨0, by omega, by omega, rfl, HI3, Below.refl _ _⟩
  case round =>
    obtain ⟨j, j0, j1, rfl, HJ, HK⟩ := hrel
    by_cases cj : j < 2
    · have oj := OJ.out j j0 cj
      obtain ⟨y, hy⟩ : ∃ y : Int, x / 2 ^ (8 * j).toNat = y := ⟨_, rfl⟩
      have y0 : 0 ≤ y := by rw [← hy]; exact Int.ediv_nonneg x0 (Int.le_of_lt (Int.pow_pos (by omega)))
      have y1 : y < 18446744073709551616 := by rw [← hy]; exact Int.lt_of_le_of_lt (Int.ediv_le_self _ x0) x1
      rw [hy] at oj
      go_wp2_with fail
      refine (oj.out _ HJ.out).mono ?_
      rintro e v4 ⟨rfl, hI4, hb4⟩
      have HI4 : Hid (IsRam v4 w.heap.size (w.heap.size + 1) (hasF 4) 4 M1 2) := hI4
      have HB4 : Hid (Below w.heap.size v3 v4) := HK.out.trans hb4
      clear hI4 hb4
      go_wp2_with fail
      exact ⟨⟨j + 1, by omega, by omega, rfl, HI4, HB4⟩, by simp [intOf]; omega⟩
    · have ej : j = 2 := by omega
      subst ej
      go_wp2_with fail
      refine (OT.out _ HJ.out).mono ?_
      rintro e v4 ⟨rfl, hI4, hb4⟩
      have HI4 : Hid (IsRam v4 w.heap.size (w.heap.size + 1) (hasF 4) 4 M1 2) := hI4
      have HB4 : Hid (Below w.heap.size v3 v4) := HK.out.trans hb4
      clear hI4 hb4
      go_wp2_with fail
      refine (awake_any _).mono ?_
      rintro e v5 ⟨rfl, hb5⟩
      have HF : Hid (Below w.heap.size w v5) := (HC.out.trans HB4.out).trans (hb5.mono HI4.out.size)
      clear hb5
      go_wp2_with fail
      go_ret
      exact ⟨rfl, HF.out⟩

set_option maxHeartbeats 1000000 in
theorem back_2_in (addr x other : Int) (h0 : 0 ≤ addr) (h1 : addr + 2 ≤ 16384) (x0 : 0 ≤ x) (x1 : x < 18446744073709551616) (t0 : 0 ≤ other) (t1 : other < 18446744073709551616) (co : addr ≤ other) (co2 : other < addr + 2) (w : World) :
    Calls Try.prog 5 #[.int .u64 addr, .int .i64 2, .int .u64 x, .int .u64 other] w fun e w' => e = .returned (.bool true) ∧ Below w.heap.size w w' := by
  have hmx : (100 : Nat) < maxLen := by unfold maxLen; decide
  obtain ⟨M1, hM1⟩ : ∃ M1, mset (fun _ => 0) addr 2 x = M1 := ⟨_, rfl⟩
  have l1 : ld M1 addr (2 : Int).toNat = x % 65536 := by
    rw [← hM1]; rw [show (2 : Int).toNat = 2 from rfl, ld_mset_low _ _ _ _ x0 2 (by omega)]; rfl
  have lb : ∀ j : Int, 0 ≤ j → j < 2 → ld M1 (addr + j) (1 : Int).toNat = x / 2 ^ (8 * j).toNat % 256 := by
    intro j j0 j1
    rw [ld_one, ← hM1]; unfold mset
    rw [if_pos (by omega), show (addr + j - addr).toNat = j.toNat by omega, show (8 * j).toNat = 8 * j.toNat by omega, pow256]
  have S1 := st_at (B := w.heap.size) (rb := w.heap.size + 1) (has := hasF 4) (F := 4) (fun _ => 0) 0 addr 2 x (by omega) h0 (by omega) (chk_in (by omega) h0 (by omega) (by omega)) x0 x1
  have O1 := ld_at (B := w.heap.size) (rb := w.heap.size + 1) (has := hasF 4) (F := 4) M1 2 addr 2 (x % 65536) h0 (by omega) (chk_in (by omega) h0 (by omega) (by omega)) l1
  have OJ : Hid (∀ j : Int, 0 ≤ j → j < 2 → Hid (∀ w1 : World, IsRam w1 w.heap.size (w.heap.size + 1) (hasF 4) 4 M1 2 → Calls Try.prog 19 #[.pointer (some ⟨w.heap.size + 1, 0, none⟩), .int .u64 (addr + j), .int .i64 1] w1 fun e w' => e = .returned (.tuple #[.int .u64 (x / 2 ^ (8 * j).toNat % 256), .int .i64 0]) ∧ IsRam w' w.heap.size (w.heap.size + 1) (hasF 4) 4 M1 2 ∧ Below w.heap.size w1 w')) := by
    intro j j0 j1
    exact ld_at M1 2 (addr + j) 1 _ (by omega) (by omega) (chk_in (by omega) (by omega) (by omega) (by omega)) (lb j j0 j1)
  obtain ⟨u, hu⟩ : ∃ u : Int, M1 other = u := ⟨_, rfl⟩
  have OT := ld_at (B := w.heap.size) (rb := w.heap.size + 1) (has := hasF 4) (F := 4) M1 2 other 1 (u) t0 t1 (chk_in (by omega) t0 (by omega) (by omega)) (by rw [ld_one]; exact hu)
  rw [hM1] at S1
  have nw := nw_at 4 (by omega) (by omega)
  have hnil := nil_no
  clear hM1 l1 lb hmx hu
  go_enter Try.func5, Try.ntmps5
  go_wp2_with fail
  refine (nw.out _).mono ?_
  rintro e v1 ⟨rfl, hI1, hb1⟩
  have HI1 : Hid (IsRam v1 w.heap.size (w.heap.size + 1) (hasF 4) 4 (fun _ => 0) 0) := hI1
  have HB1 : Hid (Below w.heap.size w v1) := hb1
  clear hI1 hb1
  go_wp2_with fail
  refine (S1.out _ HI1.out).mono ?_
  rintro e v2 ⟨rfl, hI2, hb2⟩
  have HI2 : Hid (IsRam v2 w.heap.size (w.heap.size + 1) (hasF 4) 4 M1 2) := hI2
  have HB2 : Hid (Below w.heap.size v1 v2) := hb2
  clear hI2 hb2
  go_wp2_with fail
  refine (O1.out _ HI2.out).mono ?_
  rintro e v3 ⟨rfl, hI3, hb3⟩
  have HI3 : Hid (IsRam v3 w.heap.size (w.heap.size + 1) (hasF 4) 4 M1 2) := hI3
  have HB3 : Hid (Below w.heap.size v2 v3) := hb3
  clear hI3 hb3
  have HC : Hid (Below w.heap.size w v3) := (HB1.out.trans HB2.out).trans HB3.out
  clear HB1 HB2 HB3 HI1 HI2 S1 O1
  go_wp2_with fail
  go_loopw [15] (fun i wr => ∃ j : Int, 0 ≤ j ∧ j ≤ 2 ∧ i = .int .i64 j ∧ Hid (IsRam wr w.heap.size (w.heap.size + 1) (hasF 4) 4 M1 2) ∧ Hid (Below w.heap.size v3 wr)) (fun i _ => (2 - intOf i).toNat)
  case atStart => exact ⟨0, by omega, by omega, rfl, HI3, Below.refl _ _⟩
  case round =>
    obtain ⟨j, j0, j1, rfl, HJ, HK⟩ := hrel
    by_cases cj : j < 2
    · have oj := OJ.out j j0 cj
      obtain ⟨y, hy⟩ : ∃ y : Int, x / 2 ^ (8 * j).toNat = y := ⟨_, rfl⟩
      have y0 : 0 ≤ y := by rw [← hy]; exact Int.ediv_nonneg x0 (Int.le_of_lt (Int.pow_pos (by omega)))
      have y1 : y < 18446744073709551616 := by rw [← hy]; exact Int.lt_of_le_of_lt (Int.ediv_le_self _ x0) x1
      rw [hy] at oj
      go_wp2_with fail
      refine (oj.out _ HJ.out).mono ?_
      rintro e v4 ⟨rfl, hI4, hb4⟩
      have HI4 : Hid (IsRam v4 w.heap.size (w.heap.size + 1) (hasF 4) 4 M1 2) := hI4
      have HB4 : Hid (Below w.heap.size v3 v4) := HK.out.trans hb4
      clear hI4 hb4
      go_wp2_with fail
      exact ⟨⟨j + 1, by omega, by omega, rfl, HI4, HB4⟩, by simp [intOf]; omega⟩
    · have ej : j = 2 := by omega
      subst ej
      go_wp2_with fail
      refine (OT.out _ HJ.out).mono ?_
      rintro e v4 ⟨rfl, hI4, hb4⟩
      have HI4 : Hid (IsRam v4 w.heap.size (w.heap.size + 1) (hasF 4) 4 M1 2) := hI4
      have HB4 : Hid (Below w.heap.size v3 v4) := HK.out.trans hb4
      clear hI4 hb4
      go_wp2_with fail
      refine (awake_any _).mono ?_
      rintro e v5 ⟨rfl, hb5⟩
      have HF : Hid (Below w.heap.size w v5) := (HC.out.trans HB4.out).trans (hb5.mono HI4.out.size)
      clear hb5
      go_wp2_with fail
      go_ret
      exact ⟨rfl, HF.out⟩

set_option maxHeartbeats 1000000 in
theorem back_4_far (addr x other : Int) (h0 : 0 ≤ addr) (h1 : addr + 4 ≤ 16384) (x0 : 0 ≤ x) (x1 : x < 18446744073709551616) (t0 : 0 ≤ other) (t1 : other < 18446744073709551616) (co : 16384 ≤ other) (w : World) :
    Calls Try.prog 5 #[.int .u64 addr, .int .i64 4, .int .u64 x, .int .u64 other] w fun e w' => e = .returned (.bool true) ∧ Below w.heap.size w w' := by
  have hmx : (100 : Nat) < maxLen := by unfold maxLen; decide
  obtain ⟨M1, hM1⟩ : ∃ M1, mset (fun _ => 0) addr 4 x = M1 := ⟨_, rfl⟩
  have l1 : ld M1 addr (4 : Int).toNat = x % 4294967296 := by
    rw [← hM1]; rw [show (4 : Int).toNat = 4 from rfl, ld_mset_low _ _ _ _ x0 4 (by omega)]; rfl
  have lb : ∀ j : Int, 0 ≤ j → j < 4 → ld M1 (addr + j) (1 : Int).toNat = x / 2 ^ (8 * j).toNat % 256 := by
    intro j j0 j1
    rw [ld_one, ← hM1]; unfold mset
    rw [if_pos (by omega), show (addr + j - addr).toNat = j.toNat by omega, show (8 * j).toNat = 8 * j.toNat by omega, pow256]
  have S1 := st_at (B := w.heap.size) (rb := w.heap.size + 1) (has := hasF 4) (F := 4) (fun _ => 0) 0 addr 4 x (by omega) h0 (by omega) (chk_in (by omega) h0 (by omega) (by omega)) x0 x1
  have O1 := ld_at (B := w.heap.size) (rb := w.heap.size + 1) (has := hasF 4) (F := 4) M1 2 addr 4 (x % 4294967296) h0 (by omega) (chk_in (by omega) h0 (by omega) (by omega)) l1
  have OJ : Hid (∀ j : Int, 0 ≤ j → j < 4 → Hid (∀ w1 : World, IsRam w1 w.heap.size (w.heap.size + 1) (hasF 4) 4 M1 2 → Calls Try.prog 19 #[.pointer (some ⟨w.heap.size + 1, 0, none⟩), .int .u64 (addr + j), .int .i64 1] w1 fun e w' => e = .returned (.tuple #[.int .u64 (x / 2 ^ (8 * j).toNat % 256), .int .i64 0]) ∧ IsRam w' w.heap.size (w.heap.size + 1) (hasF 4) 4 M1 2 ∧ Below w.heap.size w1 w')) := by
    intro j j0 j1
    exact ld_at M1 2 (addr + j) 1 _ (by omega) (by omega) (chk_in (by omega) (by omega) (by omega) (by omega)) (lb j j0 j1)
  have OT := le_at (B := w.heap.size) (rb := w.heap.size + 1) (has := hasF 4) (F := 4) M1 2 other 1 2 t0 t1 (chk_bus (F := 4) t0 t1 (by omega)) (by omega)
  rw [hM1] at S1
  have nw := nw_at 4 (by omega) (by omega)
  have hnil := nil_no
  clear hM1 l1 lb hmx
  go_enter Try.func5, Try.ntmps5
  go_wp2_with fail
  refine (nw.out _).mono ?_
  rintro e v1 ⟨rfl, hI1, hb1⟩
  have HI1 : Hid (IsRam v1 w.heap.size (w.heap.size + 1) (hasF 4) 4 (fun _ => 0) 0) := hI1
  have HB1 : Hid (Below w.heap.size w v1) := hb1
  clear hI1 hb1
  go_wp2_with fail
  refine (S1.out _ HI1.out).mono ?_
  rintro e v2 ⟨rfl, hI2, hb2⟩
  have HI2 : Hid (IsRam v2 w.heap.size (w.heap.size + 1) (hasF 4) 4 M1 2) := hI2
  have HB2 : Hid (Below w.heap.size v1 v2) := hb2
  clear hI2 hb2
  go_wp2_with fail
  refine (O1.out _ HI2.out).mono ?_
  rintro e v3 ⟨rfl, hI3, hb3⟩
  have HI3 : Hid (IsRam v3 w.heap.size (w.heap.size + 1) (hasF 4) 4 M1 2) := hI3
  have HB3 : Hid (Below w.heap.size v2 v3) := hb3
  clear hI3 hb3
  have HC : Hid (Below w.heap.size w v3) := (HB1.out.trans HB2.out).trans HB3.out
  clear HB1 HB2 HB3 HI1 HI2 S1 O1
  go_wp2_with fail
  go_loopw [15] (fun i wr => ∃ j : Int, 0 ≤ j ∧ j ≤ 4 ∧ i = .int .i64 j ∧ Hid (IsRam wr w.heap.size (w.heap.size + 1) (hasF 4) 4 M1 2) ∧ Hid (Below w.heap.size v3 wr)) (fun i _ => (4 - intOf i).toNat)
  case atStart => exact ⟨0, by omega, by omega, rfl, HI3, Below.refl _ _⟩
  case round =>
    obtain ⟨j, j0, j1, rfl, HJ, HK⟩ := hrel
    by_cases cj : j < 4
    · have oj := OJ.out j j0 cj
      obtain ⟨y, hy⟩ : ∃ y : Int, x / 2 ^ (8 * j).toNat = y := ⟨_, rfl⟩
      have y0 : 0 ≤ y := by rw [← hy]; exact Int.ediv_nonneg x0 (Int.le_of_lt (Int.pow_pos (by omega)))
      have y1 : y < 18446744073709551616 := by rw [← hy]; exact Int.lt_of_le_of_lt (Int.ediv_le_self _ x0) x1
      rw [hy] at oj
      go_wp2_with fail
      refine (oj.out _ HJ.out).mono ?_
      rintro e v4 ⟨rfl, hI4, hb4⟩
      have HI4 : Hid (IsRam v4 w.heap.size (w.heap.size + 1) (hasF 4) 4 M1 2) := hI4
      have HB4 : Hid (Below w.heap.size v3 v4) := HK.out.trans hb4
      clear hI4 hb4
      go_wp2_with fail
      exact ⟨⟨j + 1, by omega, by omega, rfl, HI4, HB4⟩, by simp [intOf]; omega⟩
    · have ej : j = 4 := by omega
      subst ej
      go_wp2_with fail
      refine (OT.out _ HJ.out).mono ?_
      rintro e v4 ⟨rfl, hI4, hb4⟩
      have HI4 : Hid (IsRam v4 w.heap.size (w.heap.size + 1) (hasF 4) 4 M1 2) := hI4
      have HB4 : Hid (Below w.heap.size v3 v4) := HK.out.trans hb4
      clear hI4 hb4
      go_wp2_with fail
      refine (awake_any _).mono ?_
      rintro e v5 ⟨rfl, hb5⟩
      have HF : Hid (Below w.heap.size w v5) := (HC.out.trans HB4.out).trans (hb5.mono HI4.out.size)
      clear hb5
      go_wp2_with fail
      go_ret
      exact ⟨rfl, HF.out⟩

set_option maxHeartbeats 1000000 in
theorem back_4_low (addr x other : Int) (h0 : 0 ≤ addr) (h1 : addr + 4 ≤ 16384) (x0 : 0 ≤ x) (x1 : x < 18446744073709551616) (t0 : 0 ≤ other) (t1 : other < 18446744073709551616) (co : other < addr) (w : World) :
    Calls Try.prog 5 #[.int .u64 addr, .int .i64 4, .int .u64 x, .int .u64 other] w fun e w' => e = .returned (.bool true) ∧ Below w.heap.size w w' := by
  have hmx : (100 : Nat) < maxLen := by unfold maxLen; decide
  obtain ⟨M1, hM1⟩ : ∃ M1, mset (fun _ => 0) addr 4 x = M1 := ⟨_, rfl⟩
  have l1 : ld M1 addr (4 : Int).toNat = x % 4294967296 := by
    rw [← hM1]; rw [show (4 : Int).toNat = 4 from rfl, ld_mset_low _ _ _ _ x0 4 (by omega)]; rfl
  have lb : ∀ j : Int, 0 ≤ j → j < 4 → ld M1 (addr + j) (1 : Int).toNat = x / 2 ^ (8 * j).toNat % 256 := by
    intro j j0 j1
    rw [ld_one, ← hM1]; unfold mset
    rw [if_pos (by omega), show (addr + j - addr).toNat = j.toNat by omega, show (8 * j).toNat = 8 * j.toNat by omega, pow256]
  have S1 := st_at (B := w.heap.size) (rb := w.heap.size + 1) (has := hasF 4) (F := 4) (fun _ => 0) 0 addr 4 x (by omega) h0 (by omega) (chk_in (by omega) h0 (by omega) (by omega)) x0 x1
  have O1 := ld_at (B := w.heap.size) (rb := w.heap.size + 1) (has := hasF 4) (F := 4) M1 2 addr 4 (x % 4294967296) h0 (by omega) (chk_in (by omega) h0 (by omega) (by omega)) l1
  have OJ : Hid (∀ j : Int, 0 ≤ j → j < 4 → Hid (∀ w1 : World, IsRam w1 w.heap.size (w.heap.size + 1) (hasF 4) 4 M1 2 → Calls Try.prog 19 #[.pointer (some ⟨w.heap.size + 1, 0, none⟩), .int .u64 (addr + j), .int .i64 1] w1 fun e w' => e = .returned (.tuple #[.int .u64 (x / 2 ^ (8 * j).toNat % 256), .int .i64 0]) ∧ IsRam w' w.heap.size (w.heap.size + 1) (hasF 4) 4 M1 2 ∧ Below w.heap.size w1 w')) := by
    intro j j0 j1
    exact ld_at M1 2 (addr + j) 1 _ (by omega) (by omega) (chk_in (by omega) (by omega) (by omega) (by omega)) (lb j j0 j1)
  have OT := ld_at (B := w.heap.size) (rb := w.heap.size + 1) (has := hasF 4) (F := 4) M1 2 other 1 (0) t0 t1 (chk_in (by omega) t0 (by omega) (by omega)) (by rw [ld_one, ← hM1]; unfold mset; rw [if_neg (by omega)])
  rw [hM1] at S1
  have nw := nw_at 4 (by omega) (by omega)
  have hnil := nil_no
  clear hM1 l1 lb hmx
  go_enter Try.func5, Try.ntmps5
  go_wp2_with fail
  refine (nw.out _).mono ?_
  rintro e v1 ⟨rfl, hI1, hb1⟩
  have HI1 : Hid (IsRam v1 w.heap.size (w.heap.size + 1) (hasF 4) 4 (fun _ => 0) 0) := hI1
  have HB1 : Hid (Below w.heap.size w v1) := hb1
  clear hI1 hb1
  go_wp2_with fail
  refine (S1.out _ HI1.out).mono ?_
  rintro e v2 ⟨rfl, hI2, hb2⟩
  have HI2 : Hid (IsRam v2 w.heap.size (w.heap.size + 1) (hasF 4) 4 M1 2) := hI2
  have HB2 : Hid (Below w.heap.size v1 v2) := hb2
  clear hI2 hb2
  go_wp2_with fail
  refine (O1.out _ HI2.out).mono ?_
  rintro e v3 ⟨rfl, hI3, hb3⟩
  have HI3 : Hid (IsRam v3 w.heap.size (w.heap.size + 1) (hasF 4) 4 M1 2) := hI3
  have HB3 : Hid (Below w.heap.size v2 v3) := hb3
  clear hI3 hb3
  have HC : Hid (Below w.heap.size w v3) := (HB1.out.trans HB2.out).trans HB3.out
  clear HB1 HB2 HB3 HI1 HI2 S1 O1
  go_wp2_with fail
  go_loopw [15] (fun i wr => ∃ j : Int, 0 ≤ j ∧ j ≤ 4 ∧ i = .int .i64 j ∧ Hid (IsRam wr w.heap.size (w.heap.size + 1) (hasF 4) 4 M1 2) ∧ Hid (Below w.heap.size v3 wr)) (fun i _ => (4 - intOf i).toNat)
  case atStart => exact ⟨0, by omega, by omega, rfl, HI3, Below.refl _ _⟩
  case round =>
    obtain ⟨j, j0, j1, rfl, HJ, HK⟩ := hrel
    by_cases cj : j < 4
    · have oj := OJ.out j j0 cj
      obtain ⟨y, hy⟩ : ∃ y : Int, x / 2 ^ (8 * j).toNat = y := ⟨_, rfl⟩
      have y0 : 0 ≤ y := by rw [← hy]; exact Int.ediv_nonneg x0 (Int.le_of_lt (Int.pow_pos (by omega)))
      have y1 : y < 18446744073709551616 := by rw [← hy]; exact Int.lt_of_le_of_lt (Int.ediv_le_self _ x0) x1
      rw [hy] at oj
      go_wp2_with fail
      refine (oj.out _ HJ.out).mono ?_
      rintro e v4 ⟨rfl, hI4, hb4⟩
      have HI4 : Hid (IsRam v4 w.heap.size (w.heap.size + 1) (hasF 4) 4 M1 2) := hI4
      have HB4 : Hid (Below w.heap.size v3 v4) := HK.out.trans hb4
      clear hI4 hb4
      go_wp2_with fail
      exact ⟨⟨j + 1, by omega, by omega, rfl, HI4, HB4⟩, by simp [intOf]; omega⟩
    · have ej : j = 4 := by omega
      subst ej
      go_wp2_with fail
      refine (OT.out _ HJ.out).mono ?_
      rintro e v4 ⟨rfl, hI4, hb4⟩
      have HI4 : Hid (IsRam v4 w.heap.size (w.heap.size + 1) (hasF 4) 4 M1 2) := hI4
      have HB4 : Hid (Below w.heap.size v3 v4) := HK.out.trans hb4
      clear hI4 hb4
      go_wp2_with fail
      refine (awake_any _).mono ?_
      rintro e v5 ⟨rfl, hb5⟩
      have HF : Hid (Below w.heap.size w v5) := (HC.out.trans HB4.out).trans (hb5.mono HI4.out.size)
      clear hb5
      go_wp2_with fail
      go_ret
      exact ⟨rfl, HF.out⟩

set_option maxHeartbeats 1000000 in
theorem back_4_high (addr x other : Int) (h0 : 0 ≤ addr) (h1 : addr + 4 ≤ 16384) (x0 : 0 ≤ x) (x1 : x < 18446744073709551616) (t0 : 0 ≤ other) (t1 : other < 18446744073709551616) (co : addr + 4 ≤ other) (co2 : other < 16384) (w : World) :
    Calls Try.prog 5 #[.int .u64 addr, .int .i64 4, .int .u64 x, .int .u64 other] w fun e w' => e = .returned (.bool true) ∧ Below w.heap.size w w' := by
  have hmx : (100 : Nat) < maxLen := by unfold maxLen; decide
  obtain ⟨M1, hM1⟩ : ∃ M1, mset (fun _ => 0) addr 4 x = M1 := ⟨_, rfl⟩
  have l1 : ld M1 addr (4 : Int).toNat = x % 4294967296 := by
    rw [← hM1]; rw [show (4 : Int).toNat = 4 from rfl, ld_mset_low _ _ _ _ x0 4 (by omega)]; rfl
  have lb : ∀ j : Int, 0 ≤ j → j < 4 → ld M1 (addr + j) (1 : Int).toNat = x / 2 ^ (8 * j).toNat % 256 := by
    intro j j0 j1
    rw [ld_one, ← hM1]; unfold mset
    rw [if_pos (by omega), show (addr + j - addr).toNat = j.toNat by omega, show (8 * j).toNat = 8 * j.toNat by omega, pow256]
  have S1 := st_at (B := w.heap.size) (rb := w.heap.size + 1) (has := hasF 4) (F := 4) (fun _ => 0) 0 addr 4 x (by omega) h0 (by omega) (chk_in (by omega) h0 (by omega) (by omega)) x0 x1
  have O1 := ld_at (B := w.heap.size) (rb := w.heap.size + 1) (has := hasF 4) (F := 4) M1 2 addr 4 (x % 4294967296) h0 (by omega) (chk_in (by omega) h0 (by omega) (by omega)) l1
  have OJ : Hid (∀ j : Int, 0 ≤ j → j < 4 → Hid (∀ w1 : World, IsRam w1 w.heap.size (w.heap.size + 1) (hasF 4) 4 M1 2 → Calls Try.prog 19 #[.pointer (some ⟨w.heap.size + 1, 0, none⟩), .int .u64 (addr + j), .int .i64 1] w1 fun e w' => e = .returned (.tuple #[.int .u64 (x / 2 ^ (8 * j).toNat % 256), .int .i64 0]) ∧ IsRam w' w.heap.size (w.heap.size + 1) (hasF 4) 4 M1 2 ∧ Below w.heap.size w1 w')) := by
    intro j j0 j1
    exact ld_at M1 2 (addr + j) 1 _ (by omega) (by omega) (chk_in (by omega) (by omega) (by omega) (by omega)) (lb j j0 j1)
  have OT := ld_at (B := w.heap.size) (rb := w.heap.size + 1) (has := hasF 4) (F := 4) M1 2 other 1 (0) t0 t1 (chk_in (by omega) t0 (by omega) (by omega)) (by rw [ld_one, ← hM1]; unfold mset; rw [if_neg (by omega)])
  rw [hM1] at S1
  have nw := nw_at 4 (by omega) (by omega)
  have hnil := nil_no
  clear hM1 l1 lb hmx
  go_enter Try.func5, Try.ntmps5
  go_wp2_with fail
  refine (nw.out _).mono ?_
  rintro e v1 ⟨rfl, hI1, hb1⟩
  have HI1 : Hid (IsRam v1 w.heap.size (w.heap.size + 1) (hasF 4) 4 (fun _ => 0) 0) := hI1
  have HB1 : Hid (Below w.heap.size w v1) := hb1
  clear hI1 hb1
  go_wp2_with fail
  refine (S1.out _ HI1.out).mono ?_
  rintro e v2 ⟨rfl, hI2, hb2⟩
  have HI2 : Hid (IsRam v2 w.heap.size (w.heap.size + 1) (hasF 4) 4 M1 2) := hI2
  have HB2 : Hid (Below w.heap.size v1 v2) := hb2
  clear hI2 hb2
  go_wp2_with fail
  refine (O1.out _ HI2.out).mono ?_
  rintro e v3 ⟨rfl, hI3, hb3⟩
  have HI3 : Hid (IsRam v3 w.heap.size (w.heap.size + 1) (hasF 4) 4 M1 2) := hI3
  have HB3 : Hid (Below w.heap.size v2 v3) := hb3
  clear hI3 hb3
  have HC : Hid (Below w.heap.size w v3) := (HB1.out.trans HB2.out).trans HB3.out
  clear HB1 HB2 HB3 HI1 HI2 S1 O1
  go_wp2_with fail
  go_loopw [15] (fun i wr => ∃ j : Int, 0 ≤ j ∧ j ≤ 4 ∧ i = .int .i64 j ∧ Hid (IsRam wr w.heap.size (w.heap.size + 1) (hasF 4) 4 M1 2) ∧ Hid (Below w.heap.size v3 wr)) (fun i _ => (4 - intOf i).toNat)
  case atStart => exact ⟨0, by omega, by omega, rfl, HI3, Below.refl _ _⟩
  case round =>
    obtain ⟨j, j0, j1, rfl, HJ, HK⟩ := hrel
    by_cases cj : j < 4
    · have oj := OJ.out j j0 cj
      obtain ⟨y, hy⟩ : ∃ y : Int, x / 2 ^ (8 * j).toNat = y := ⟨_, rfl⟩
      have y0 : 0 ≤ y := by rw [← hy]; exact Int.ediv_nonneg x0 (Int.le_of_lt (Int.pow_pos (by omega)))
      have y1 : y < 18446744073709551616 := by rw [← hy]; exact Int.lt_of_le_of_lt (Int.ediv_le_self _ x0) x1
      rw [hy] at oj
      go_wp2_with fail
      refine (oj.out _ HJ.out).mono ?_
      rintro e v4 ⟨rfl, hI4, hb4⟩
      have HI4 : Hid (IsRam v4 w.heap.size (w.heap.size + 1) (hasF 4) 4 M1 2) := hI4
      have HB4 : Hid (Below w.heap.size v3 v4) := HK.out.trans hb4
      clear hI4 hb4
      go_wp2_with fail
      exact ⟨⟨j + 1, by omega, by omega, rfl, HI4, HB4⟩, by simp [intOf]; omega⟩
    · have ej : j = 4 := by omega
      subst ej
      go_wp2_with fail
      refine (OT.out _ HJ.out).mono ?_
      rintro e v4 ⟨rfl, hI4, hb4⟩
      have HI4 : Hid (IsRam v4 w.heap.size (w.heap.size + 1) (hasF 4) 4 M1 2) := hI4
      have HB4 : Hid (Below w.heap.size v3 v4) := HK.out.trans hb4
      clear hI4 hb4
      go_wp2_with fail
      refine (awake_any _).mono ?_
      rintro e v5 ⟨rfl, hb5⟩
      have HF : Hid (Below w.heap.size w v5) := (HC.out.trans HB4.out).trans (hb5.mono HI4.out.size)
      clear hb5
      go_wp2_with fail
      go_ret
      exact ⟨rfl, HF.out⟩

set_option maxHeartbeats 1000000 in
theorem back_4_in (addr x other : Int) (h0 : 0 ≤ addr) (h1 : addr + 4 ≤ 16384) (x0 : 0 ≤ x) (x1 : x < 18446744073709551616) (t0 : 0 ≤ other) (t1 : other < 18446744073709551616) (co : addr ≤ other) (co2 : other < addr + 4) (w : World) :
    Calls Try.prog 5 #[.int .u64 addr, .int .i64 4, .int .u64 x, .int .u64 other] w fun e w' => e = .returned (.bool true) ∧ Below w.heap.size w w' := by
  have hmx : (100 : Nat) < maxLen := by unfold maxLen; decide
  obtain ⟨M1, hM1⟩ : ∃ M1, mset (fun _ => 0) addr 4 x = M1 := ⟨_, rfl⟩
  have l1 : ld M1 addr (4 : Int).toNat = x % 4294967296 := by
    rw [← hM1]; rw [show (4 : Int).toNat = 4 from rfl, ld_mset_low _ _ _ _ x0 4 (by omega)]; rfl
  have lb : ∀ j : Int, 0 ≤ j → j < 4 → ld M1 (addr + j) (1 : Int).toNat = x / 2 ^ (8 * j).toNat % 256 := by
    intro j j0 j1
    rw [ld_one, ← hM1]; unfold mset
    rw [if_pos (by omega), show (addr + j - addr).toNat = j.toNat by omega, show (8 * j).toNat = 8 * j.toNat by omega, pow256]
  have S1 := st_at (B := w.heap.size) (rb := w.heap.size + 1) (has := hasF 4) (F := 4) (fun _ => 0) 0 addr 4 x (by omega) h0 (by omega) (chk_in (by omega) h0 (by omega) (by omega)) x0 x1
  have O1 := ld_at (B := w.heap.size) (rb := w.heap.size + 1) (has := hasF 4) (F := 4) M1 2 addr 4 (x % 4294967296) h0 (by omega) (chk_in (by omega) h0 (by omega) (by omega)) l1
  have OJ : Hid (∀ j : Int, 0 ≤ j → j < 4 → Hid (∀ w1 : World, IsRam w1 w.heap.size (w.heap.size + 1) (hasF 4) 4 M1 2 → Calls Try.prog 19 #[.pointer (some ⟨w.heap.size + 1, 0, none⟩), .int .u64 (addr + j), .int .i64 1] w1 fun e w' => e = .returned (.tuple #[.int .u64 (x / 2 ^ (8 * j).toNat % 256), .int .i64 0]) ∧ IsRam w' w.heap.size (w.heap.size + 1) (hasF 4) 4 M1 2 ∧ Below w.heap.size w1 w')) := by
    intro j j0 j1
    exact ld_at M1 2 (addr + j) 1 _ (by omega) (by omega) (chk_in (by omega) (by omega) (by omega) (by omega)) (lb j j0 j1)
  obtain ⟨u, hu⟩ : ∃ u : Int, M1 other = u := ⟨_, rfl⟩
  have OT := ld_at (B := w.heap.size) (rb := w.heap.size + 1) (has := hasF 4) (F := 4) M1 2 other 1 (u) t0 t1 (chk_in (by omega) t0 (by omega) (by omega)) (by rw [ld_one]; exact hu)
  rw [hM1] at S1
  have nw := nw_at 4 (by omega) (by omega)
  have hnil := nil_no
  clear hM1 l1 lb hmx hu
  go_enter Try.func5, Try.ntmps5
  go_wp2_with fail
  refine (nw.out _).mono ?_
  rintro e v1 ⟨rfl, hI1, hb1⟩
  have HI1 : Hid (IsRam v1 w.heap.size (w.heap.size + 1) (hasF 4) 4 (fun _ => 0) 0) := hI1
  have HB1 : Hid (Below w.heap.size w v1) := hb1
  clear hI1 hb1
  go_wp2_with fail
  refine (S1.out _ HI1.out).mono ?_
  rintro e v2 ⟨rfl, hI2, hb2⟩
  have HI2 : Hid (IsRam v2 w.heap.size (w.heap.size + 1) (hasF 4) 4 M1 2) := hI2
  have HB2 : Hid (Below w.heap.size v1 v2) := hb2
  clear hI2 hb2
  go_wp2_with fail
  refine (O1.out _ HI2.out).mono ?_
  rintro e v3 ⟨rfl, hI3, hb3⟩
  have HI3 : Hid (IsRam v3 w.heap.size (w.heap.size + 1) (hasF 4) 4 M1 2) := hI3
  have HB3 : Hid (Below w.heap.size v2 v3) := hb3
  clear hI3 hb3
  have HC : Hid (Below w.heap.size w v3) := (HB1.out.trans HB2.out).trans HB3.out
  clear HB1 HB2 HB3 HI1 HI2 S1 O1
  go_wp2_with fail
  go_loopw [15] (fun i wr => ∃ j : Int, 0 ≤ j ∧ j ≤ 4 ∧ i = .int .i64 j ∧ Hid (IsRam wr w.heap.size (w.heap.size + 1) (hasF 4) 4 M1 2) ∧ Hid (Below w.heap.size v3 wr)) (fun i _ => (4 - intOf i).toNat)
  case atStart => exact ⟨0, by omega, by omega, rfl, HI3, Below.refl _ _⟩
  case round =>
    obtain ⟨j, j0, j1, rfl, HJ, HK⟩ := hrel
    by_cases cj : j < 4
    · have oj := OJ.out j j0 cj
      obtain ⟨y, hy⟩ : ∃ y : Int, x / 2 ^ (8 * j).toNat = y := ⟨_, rfl⟩
      have y0 : 0 ≤ y := by rw [← hy]; exact Int.ediv_nonneg x0 (Int.le_of_lt (Int.pow_pos (by omega)))
      have y1 : y < 18446744073709551616 := by rw [← hy]; exact Int.lt_of_le_of_lt (Int.ediv_le_self _ x0) x1
      rw [hy] at oj
      go_wp2_with fail
      refine (oj.out _ HJ.out).mono ?_
      rintro e v4 ⟨rfl, hI4, hb4⟩
      have HI4 : Hid (IsRam v4 w.heap.size (w.heap.size + 1) (hasF 4) 4 M1 2) := hI4
      have HB4 : Hid (Below w.heap.size v3 v4) := HK.out.trans hb4
      clear hI4 hb4
      go_wp2_with fail
      exact ⟨⟨j + 1, by omega, by omega, rfl, HI4, HB4⟩, by simp [intOf]; omega⟩
    · have ej : j = 4 := by omega
      subst ej
      go_wp2_with fail
      refine (OT.out _ HJ.out).mono ?_
      rintro e v4 ⟨rfl, hI4, hb4⟩
      have HI4 : Hid (IsRam v4 w.heap.size (w.heap.size + 1) (hasF 4) 4 M1 2) := hI4
      have HB4 : Hid (Below w.heap.size v3 v4) := HK.out.trans hb4
      clear hI4 hb4
      go_wp2_with fail
      refine (awake_any _).mono ?_
      rintro e v5 ⟨rfl, hb5⟩
      have HF : Hid (Below w.heap.size w v5) := (HC.out.trans HB4.out).trans (hb5.mono HI4.out.size)
      clear hb5
      go_wp2_with fail
      go_ret
      exact ⟨rfl, HF.out⟩

set_option maxHeartbeats 1000000 in
theorem back_8_far (addr x other : Int) (h0 : 0 ≤ addr) (h1 : addr + 8 ≤ 16384) (x0 : 0 ≤ x) (x1 : x < 18446744073709551616) (t0 : 0 ≤ other) (t1 : other < 18446744073709551616) (co : 16384 ≤ other) (w : World) :
    Calls Try.prog 5 #[.int .u64 addr, .int .i64 8, .int .u64 x, .int .u64 other] w fun e w' => e = .returned (.bool true) ∧ Below w.heap.size w w' := by
  have hmx : (100 : Nat) < maxLen := by unfold maxLen; decide
  obtain ⟨M1, hM1⟩ : ∃ M1, mset (fun _ => 0) addr 8 x = M1 := ⟨_, rfl⟩
  have l1 : ld M1 addr (8 : Int).toNat = x := by
    rw [← hM1]; exact ld_mset8 _ _ _ x0 x1
  have lb : ∀ j : Int, 0 ≤ j → j < 8 → ld M1 (addr + j) (1 : Int).toNat = x / 2 ^ (8 * j).toNat % 256 := by
    intro j j0 j1
    rw [ld_one, ← hM1]; unfold mset
    rw [if_pos (by omega), show (addr + j - addr).toNat = j.toNat by omega, show (8 * j).toNat = 8 * j.toNat by omega, pow256]
  have S1 := st_at (B := w.heap.size) (rb := w.heap.size + 1) (has := hasF 4) (F := 4) (fun _ => 0) 0 addr 8 x (by omega) h0 (by omega) (chk_in (by omega) h0 (by omega) (by omega)) x0 x1
  have O1 := ld_at (B := w.heap.size) (rb := w.heap.size + 1) (has := hasF 4) (F := 4) M1 2 addr 8 (x) h0 (by omega) (chk_in (by omega) h0 (by omega) (by omega)) l1
  have OJ : Hid (∀ j : Int, 0 ≤ j → j < 8 → Hid (∀ w1 : World, IsRam w1 w.heap.size (w.heap.size + 1) (hasF 4) 4 M1 2 → Calls Try.prog 19 #[.pointer (some ⟨w.heap.size + 1, 0, none⟩), .int .u64 (addr + j), .int .i64 1] w1 fun e w' => e = .returned (.tuple #[.int .u64 (x / 2 ^ (8 * j).toNat % 256), .int .i64 0]) ∧ IsRam w' w.heap.size (w.heap.size + 1) (hasF 4) 4 M1 2 ∧ Below w.heap.size w1 w')) := by
    intro j j0 j1
    exact ld_at M1 2 (addr + j) 1 _ (by omega) (by omega) (chk_in (by omega) (by omega) (by omega) (by omega)) (lb j j0 j1)
  have OT := le_at (B := w.heap.size) (rb := w.heap.size + 1) (has := hasF 4) (F := 4) M1 2 other 1 2 t0 t1 (chk_bus (F := 4) t0 t1 (by omega)) (by omega)
  rw [hM1] at S1
  have nw := nw_at 4 (by omega) (by omega)
  have hnil := nil_no
  clear hM1 l1 lb hmx
  go_enter Try.func5, Try.ntmps5
  go_wp2_with fail
  refine (nw.out _).mono ?_
  rintro e v1 ⟨rfl, hI1, hb1⟩
  have HI1 : Hid (IsRam v1 w.heap.size (w.heap.size + 1) (hasF 4) 4 (fun _ => 0) 0) := hI1
  have HB1 : Hid (Below w.heap.size w v1) := hb1
  clear hI1 hb1
  go_wp2_with fail
  refine (S1.out _ HI1.out).mono ?_
  rintro e v2 ⟨rfl, hI2, hb2⟩
  have HI2 : Hid (IsRam v2 w.heap.size (w.heap.size + 1) (hasF 4) 4 M1 2) := hI2
  have HB2 : Hid (Below w.heap.size v1 v2) := hb2
  clear hI2 hb2
  go_wp2_with fail
  refine (O1.out _ HI2.out).mono ?_
  rintro e v3 ⟨rfl, hI3, hb3⟩
  have HI3 : Hid (IsRam v3 w.heap.size (w.heap.size + 1) (hasF 4) 4 M1 2) := hI3
  have HB3 : Hid (Below w.heap.size v2 v3) := hb3
  clear hI3 hb3
  have HC : Hid (Below w.heap.size w v3) := (HB1.out.trans HB2.out).trans HB3.out
  clear HB1 HB2 HB3 HI1 HI2 S1 O1
  go_wp2_with fail
  go_loopw [15] (fun i wr => ∃ j : Int, 0 ≤ j ∧ j ≤ 8 ∧ i = .int .i64 j ∧ Hid (IsRam wr w.heap.size (w.heap.size + 1) (hasF 4) 4 M1 2) ∧ Hid (Below w.heap.size v3 wr)) (fun i _ => (8 - intOf i).toNat)
  case atStart => exact ⟨0, by omega, by omega, rfl, HI3, Below.refl _ _⟩
  case round =>
    obtain ⟨j, j0, j1, rfl, HJ, HK⟩ := hrel
    by_cases cj : j < 8
    · have oj := OJ.out j j0 cj
      obtain ⟨y, hy⟩ : ∃ y : Int, x / 2 ^ (8 * j).toNat = y := ⟨_, rfl⟩
      have y0 : 0 ≤ y := by rw [← hy]; exact Int.ediv_nonneg x0 (Int.le_of_lt (Int.pow_pos (by omega)))
      have y1 : y < 18446744073709551616 := by rw [← hy]; exact Int.lt_of_le_of_lt (Int.ediv_le_self _ x0) x1
      rw [hy] at oj
      go_wp2_with fail
      refine (oj.out _ HJ.out).mono ?_
      rintro e v4 ⟨rfl, hI4, hb4⟩
      have HI4 : Hid (IsRam v4 w.heap.size (w.heap.size + 1) (hasF 4) 4 M1 2) := hI4
      have HB4 : Hid (Below w.heap.size v3 v4) := HK.out.trans hb4
      clear hI4 hb4
      go_wp2_with fail
      exact ⟨⟨j + 1, by omega, by omega, rfl, HI4, HB4⟩, by simp [intOf]; omega⟩
    · have ej : j = 8 := by omega
      subst ej
      go_wp2_with fail
      refine (OT.out _ HJ.out).mono ?_
      rintro e v4 ⟨rfl, hI4, hb4⟩
      have HI4 : Hid (IsRam v4 w.heap.size (w.heap.size + 1) (hasF 4) 4 M1 2) := hI4
      have HB4 : Hid (Below w.heap.size v3 v4) := HK.out.trans hb4
      clear hI4 hb4
      go_wp2_with fail
      refine (awake_any _).mono ?_
      rintro e v5 ⟨rfl, hb5⟩
      have HF : Hid (Below w.heap.size w v5) := (HC.out.trans HB4.out).trans (hb5.mono HI4.out.size)
      clear hb5
      go_wp2_with fail
      go_ret
      exact ⟨rfl, HF.out⟩

set_option maxHeartbeats 1000000 in
theorem back_8_low (addr x other : Int) (h0 : 0 ≤ addr) (h1 : addr + 8 ≤ 16384) (x0 : 0 ≤ x) (x1 : x < 18446744073709551616) (t0 : 0 ≤ other) (t1 : other < 18446744073709551616) (co : other < addr) (w : World) :
    Calls Try.prog 5 #[.int .u64 addr, .int .i64 8, .int .u64 x, .int .u64 other] w fun e w' => e = .returned (.bool true) ∧ Below w.heap.size w w' := by
  have hmx : (100 : Nat) < maxLen := by unfold maxLen; decide
  obtain ⟨M1, hM1⟩ : ∃ M1, mset (fun _ => 0) addr 8 x = M1 := ⟨_, rfl⟩
  have l1 : ld M1 addr (8 : Int).toNat = x := by
    rw [← hM1]; exact ld_mset8 _ _ _ x0 x1
  have lb : ∀ j : Int, 0 ≤ j → j < 8 → ld M1 (addr + j) (1 : Int).toNat = x / 2 ^ (8 * j).toNat % 256 := by
    intro j j0 j1
    rw [ld_one, ← hM1]; unfold mset
    rw [if_pos (by omega), show (addr + j - addr).toNat = j.toNat by omega, show (8 * j).toNat = 8 * j.toNat by omega, pow256]
  have S1 := st_at (B := w.heap.size) (rb := w.heap.size + 1) (has := hasF 4) (F := 4) (fun _ => 0) 0 addr 8 x (by omega) h0 (by omega) (chk_in (by omega) h0 (by omega) (by omega)) x0 x1
  have O1 := ld_at (B := w.heap.size) (rb := w.heap.size + 1) (has := hasF 4) (F := 4) M1 2 addr 8 (x) h0 (by omega) (chk_in (by omega) h0 (by omega) (by omega)) l1
  have OJ : Hid (∀ j : Int, 0 ≤ j → j < 8 → Hid (∀ w1 : World, IsRam w1 w.heap.size (w.heap.size + 1) (hasF 4) 4 M1 2 → Calls Try.prog 19 #[.pointer (some ⟨w.heap.size + 1, 0, none⟩), .int .u64 (addr + j), .int .i64 1] w1 fun e w' => e = .returned (.tuple #[.int .u64 (x / 2 ^ (8 * j).toNat % 256), .int .i64 0]) ∧ IsRam w' w.heap.size (w.heap.size + 1) (hasF 4) 4 M1 2 ∧ Below w.heap.size w1 w')) := by
    intro j j0 j1
    exact ld_at M1 2 (addr + j) 1 _ (by omega) (by omega) (chk_in (by omega) (by omega) (by omega) (by omega)) (lb j j0 j1)
  have OT := ld_at (B := w.heap.size) (rb := w.heap.size + 1) (has := hasF 4) (F := 4) M1 2 other 1 (0) t0 t1 (chk_in (by omega) t0 (by omega) (by omega)) (by rw [ld_one, ← hM1]; unfold mset; rw [if_neg (by omega)])
  rw [hM1] at S1
  have nw := nw_at 4 (by omega) (by omega)
  have hnil := nil_no
  clear hM1 l1 lb hmx
  go_enter Try.func5, Try.ntmps5
  go_wp2_with fail
  refine (nw.out _).mono ?_
  rintro e v1 ⟨rfl, hI1, hb1⟩
  have HI1 : Hid (IsRam v1 w.heap.size (w.heap.size + 1) (hasF 4) 4 (fun _ => 0) 0) := hI1
  have HB1 : Hid (Below w.heap.size w v1) := hb1
  clear hI1 hb1
  go_wp2_with fail
  refine (S1.out _ HI1.out).mono ?_
  rintro e v2 ⟨rfl, hI2, hb2⟩
  have HI2 : Hid (IsRam v2 w.heap.size (w.heap.size + 1) (hasF 4) 4 M1 2) := hI2
  have HB2 : Hid (Below w.heap.size v1 v2) := hb2
  clear hI2 hb2
  go_wp2_with fail
  refine (O1.out _ HI2.out).mono ?_
  rintro e v3 ⟨rfl, hI3, hb3⟩
  have HI3 : Hid (IsRam v3 w.heap.size (w.heap.size + 1) (hasF 4) 4 M1 2) := hI3
  have HB3 : Hid (Below w.heap.size v2 v3) := hb3
  clear hI3 hb3
  have HC : Hid (Below w.heap.size w v3) := (HB1.out.trans HB2.out).trans HB3.out
  clear HB1 HB2 HB3 HI1 HI2 S1 O1
  go_wp2_with fail
  go_loopw [15] (fun i wr => ∃ j : Int, 0 ≤ j ∧ j ≤ 8 ∧ i = .int .i64 j ∧ Hid (IsRam wr w.heap.size (w.heap.size + 1) (hasF 4) 4 M1 2) ∧ Hid (Below w.heap.size v3 wr)) (fun i _ => (8 - intOf i).toNat)
  case atStart => exact ⟨0, by omega, by omega, rfl, HI3, Below.refl _ _⟩
  case round =>
    obtain ⟨j, j0, j1, rfl, HJ, HK⟩ := hrel
    by_cases cj : j < 8
    · have oj := OJ.out j j0 cj
      obtain ⟨y, hy⟩ : ∃ y : Int, x / 2 ^ (8 * j).toNat = y := ⟨_, rfl⟩
      have y0 : 0 ≤ y := by rw [← hy]; exact Int.ediv_nonneg x0 (Int.le_of_lt (Int.pow_pos (by omega)))
      have y1 : y < 18446744073709551616 := by rw [← hy]; exact Int.lt_of_le_of_lt (Int.ediv_le_self _ x0) x1
      rw [hy] at oj
      go_wp2_with fail
      refine (oj.out _ HJ.out).mono ?_
      rintro e v4 ⟨rfl, hI4, hb4⟩
      have HI4 : Hid (IsRam v4 w.heap.size (w.heap.size + 1) (hasF 4) 4 M1 2) := hI4
      have HB4 : Hid (Below w.heap.size v3 v4) := HK.out.trans hb4
      clear hI4 hb4
      go_wp2_with fail
      exact ⟨⟨j + 1, by omega, by omega, rfl, HI4, HB4⟩, by simp [intOf]; omega⟩
    · have ej : j = 8 := by omega
      subst ej
      go_wp2_with fail
      refine (OT.out _ HJ.out).mono ?_
      rintro e v4 ⟨rfl, hI4, hb4⟩
      have HI4 : Hid (IsRam v4 w.heap.size (w.heap.size + 1) (hasF 4) 4 M1 2) := hI4
      have HB4 : Hid (Below w.heap.size v3 v4) := HK.out.trans hb4
      clear hI4 hb4
      go_wp2_with fail
      refine (awake_any _).mono ?_
      rintro e v5 ⟨rfl, hb5⟩
      have HF : Hid (Below w.heap.size w v5) := (HC.out.trans HB4.out).trans (hb5.mono HI4.out.size)
      clear hb5
      go_wp2_with fail
      go_ret
      exact ⟨rfl, HF.out⟩

set_option maxHeartbeats 1000000 in
theorem back_8_high (addr x other : Int) (h0 : 0 ≤ addr) (h1 : addr + 8 ≤ 16384) (x0 : 0 ≤ x) (x1 : x < 18446744073709551616) (t0 : 0 ≤ other) (t1 : other < 18446744073709551616) (co : addr + 8 ≤ other) (co2 : other < 16384) (w : World) :
    Calls Try.prog 5 #[.int .u64 addr, .int .i64 8, .int .u64 x, .int .u64 other] w fun e w' => e = .returned (.bool true) ∧ Below w.heap.size w w' := by
  have hmx : (100 : Nat) < maxLen := by unfold maxLen; decide
  obtain ⟨M1, hM1⟩ : ∃ M1, mset (fun _ => 0) addr 8 x = M1 := ⟨_, rfl⟩
  have l1 : ld M1 addr (8 : Int).toNat = x := by
    rw [← hM1]; exact ld_mset8 _ _ _ x0 x1
  have lb : ∀ j : Int, 0 ≤ j → j < 8 → ld M1 (addr + j) (1 : Int).toNat = x / 2 ^ (8 * j).toNat % 256 := by
    intro j j0 j1
    rw [ld_one, ← hM1]; unfold mset
    rw [if_pos (by omega), show (addr + j - addr).toNat = j.toNat by omega, show (8 * j).toNat = 8 * j.toNat by omega, pow256]
  have S1 := st_at (B := w.heap.size) (rb := w.heap.size + 1) (has := hasF 4) (F := 4) (fun _ => 0) 0 addr 8 x (by omega) h0 (by omega) (chk_in (by omega) h0 (by omega) (by omega)) x0 x1
  have O1 := ld_at (B := w.heap.size) (rb := w.heap.size + 1) (has := hasF 4) (F := 4) M1 2 addr 8 (x) h0 (by omega) (chk_in (by omega) h0 (by omega) (by omega)) l1
  have OJ : Hid (∀ j : Int, 0 ≤ j → j < 8 → Hid (∀ w1 : World, IsRam w1 w.heap.size (w.heap.size + 1) (hasF 4) 4 M1 2 → Calls Try.prog 19 #[.pointer (some ⟨w.heap.size + 1, 0, none⟩), .int .u64 (addr + j), .int .i64 1] w1 fun e w' => e = .returned (.tuple #[.int .u64 (x / 2 ^ (8 * j).toNat % 256), .int .i64 0]) ∧ IsRam w' w.heap.size (w.heap.size + 1) (hasF 4) 4 M1 2 ∧ Below w.heap.size w1 w')) := by
    intro j j0 j1
    exact ld_at M1 2 (addr + j) 1 _ (by omega) (by omega) (chk_in (by omega) (by omega) (by omega) (by omega)) (lb j j0 j1)
  have OT := ld_at (B := w.heap.size) (rb := w.heap.size + 1) (has := hasF 4) (F := 4) M1 2 other 1 (0) t0 t1 (chk_in (by omega) t0 (by omega) (by omega)) (by rw [ld_one, ← hM1]; unfold mset; rw [if_neg (by omega)])
  rw [hM1] at S1
  have nw := nw_at 4 (by omega) (by omega)
  have hnil := nil_no
  clear hM1 l1 lb hmx
  go_enter Try.func5, Try.ntmps5
  go_wp2_with fail
  refine (nw.out _).mono ?_
  rintro e v1 ⟨rfl, hI1, hb1⟩
  have HI1 : Hid (IsRam v1 w.heap.size (w.heap.size + 1) (hasF 4) 4 (fun _ => 0) 0) := hI1
  have HB1 : Hid (Below w.heap.size w v1) := hb1
  clear hI1 hb1
  go_wp2_with fail
  refine (S1.out _ HI1.out).mono ?_
  rintro e v2 ⟨rfl, hI2, hb2⟩
  have HI2 : Hid (IsRam v2 w.heap.size (w.heap.size + 1) (hasF 4) 4 M1 2) := hI2
  have HB2 : Hid (Below w.heap.size v1 v2) := hb2
  clear hI2 hb2
  go_wp2_with fail
  refine (O1.out _ HI2.out).mono ?_
  rintro e v3 ⟨rfl, hI3, hb3⟩
  have HI3 : Hid (IsRam v3 w.heap.size (w.heap.size + 1) (hasF 4) 4 M1 2) := hI3
  have HB3 : Hid (Below w.heap.size v2 v3) := hb3
  clear hI3 hb3
  have HC : Hid (Below w.heap.size w v3) := (HB1.out.trans HB2.out).trans HB3.out
  clear HB1 HB2 HB3 HI1 HI2 S1 O1
  go_wp2_with fail
  go_loopw [15] (fun i wr => ∃ j : Int, 0 ≤ j ∧ j ≤ 8 ∧ i = .int .i64 j ∧ Hid (IsRam wr w.heap.size (w.heap.size + 1) (hasF 4) 4 M1 2) ∧ Hid (Below w.heap.size v3 wr)) (fun i _ => (8 - intOf i).toNat)
  case atStart => exact ⟨0, by omega, by omega, rfl, HI3, Below.refl _ _⟩
  case round =>
    obtain ⟨j, j0, j1, rfl, HJ, HK⟩ := hrel
    by_cases cj : j < 8
    · have oj := OJ.out j j0 cj
      obtain ⟨y, hy⟩ : ∃ y : Int, x / 2 ^ (8 * j).toNat = y := ⟨_, rfl⟩
      have y0 : 0 ≤ y := by rw [← hy]; exact Int.ediv_nonneg x0 (Int.le_of_lt (Int.pow_pos (by omega)))
      have y1 : y < 18446744073709551616 := by rw [← hy]; exact Int.lt_of_le_of_lt (Int.ediv_le_self _ x0) x1
      rw [hy] at oj
      go_wp2_with fail
      refine (oj.out _ HJ.out).mono ?_
      rintro e v4 ⟨rfl, hI4, hb4⟩
      have HI4 : Hid (IsRam v4 w.heap.size (w.heap.size + 1) (hasF 4) 4 M1 2) := hI4
      have HB4 : Hid (Below w.heap.size v3 v4) := HK.out.trans hb4
      clear hI4 hb4
      go_wp2_with fail
      exact ⟨⟨j + 1, by omega, by omega, rfl, HI4, HB4⟩, by simp [intOf]; omega⟩
    · have ej : j = 8 := by omega
      subst ej
      go_wp2_with fail
      refine (OT.out _ HJ.out).mono ?_
      rintro e v4 ⟨rfl, hI4, hb4⟩
      have HI4 : Hid (IsRam v4 w.heap.size (w.heap.size + 1) (hasF 4) 4 M1 2) := hI4
      have HB4 : Hid (Below w.heap.size v3 v4) := HK.out.trans hb4
      clear hI4 hb4
      go_wp2_with fail
      refine (awake_any _).mono ?_
      rintro e v5 ⟨rfl, hb5⟩
      have HF : Hid (Below w.heap.size w v5) := (HC.out.trans HB4.out).trans (hb5.mono HI4.out.size)
      clear hb5
      go_wp2_with fail
      go_ret
      exact ⟨rfl, HF.out⟩

set_option maxHeartbeats 1000000 in
theorem back_8_in (addr x other : Int) (h0 : 0 ≤ addr) (h1 : addr + 8 ≤ 16384) (x0 : 0 ≤ x) (x1 : x < 18446744073709551616) (t0 : 0 ≤ other) (t1 : other < 18446744073709551616) (co : addr ≤ other) (co2 : other < addr + 8) (w : World) :
    Calls Try.prog 5 #[.int .u64 addr, .int .i64 8, .int .u64 x, .int .u64 other] w fun e w' => e = .returned (.bool true) ∧ Below w.heap.size w w' := by
  have hmx : (100 : Nat) < maxLen := by unfold maxLen; decide
  obtain ⟨M1, hM1⟩ : ∃ M1, mset (fun _ => 0) addr 8 x = M1 := ⟨_, rfl⟩
  have l1 : ld M1 addr (8 : Int).toNat = x := by
    rw [← hM1]; exact ld_mset8 _ _ _ x0 x1
  have lb : ∀ j : Int, 0 ≤ j → j < 8 → ld M1 (addr + j) (1 : Int).toNat = x / 2 ^ (8 * j).toNat % 256 := by
    intro j j0 j1
    rw [ld_one, ← hM1]; unfold mset
    rw [if_pos (by omega), show (addr + j - addr).toNat = j.toNat by omega, show (8 * j).toNat = 8 * j.toNat by omega, pow256]
  have S1 := st_at (B := w.heap.size) (rb := w.heap.size + 1) (has := hasF 4) (F := 4) (fun _ => 0) 0 addr 8 x (by omega) h0 (by omega) (chk_in (by omega) h0 (by omega) (by omega)) x0 x1
  have O1 := ld_at (B := w.heap.size) (rb := w.heap.size + 1) (has := hasF 4) (F := 4) M1 2 addr 8 (x) h0 (by omega) (chk_in (by omega) h0 (by omega) (by omega)) l1
  have OJ : Hid (∀ j : Int, 0 ≤ j → j < 8 → Hid (∀ w1 : World, IsRam w1 w.heap.size (w.heap.size + 1) (hasF 4) 4 M1 2 → Calls Try.prog 19 #[.pointer (some ⟨w.heap.size + 1, 0, none⟩), .int .u64 (addr + j), .int .i64 1] w1 fun e w' => e = .returned (.tuple #[.int .u64 (x / 2 ^ (8 * j).toNat % 256), .int .i64 0]) ∧ IsRam w' w.heap.size (w.heap.size + 1) (hasF 4) 4 M1 2 ∧ Below w.heap.size w1 w')) := by
    intro j j0 j1
    exact ld_at M1 2 (addr + j) 1 _ (by omega) (by omega) (chk_in (by omega) (by omega) (by omega) (by omega)) (lb j j0 j1)
  obtain ⟨u, hu⟩ : ∃ u : Int, M1 other = u := ⟨_, rfl⟩
  have OT := ld_at (B := w.heap.size) (rb := w.heap.size + 1) (has := hasF 4) (F := 4) M1 2 other 1 (u) t0 t1 (chk_in (by omega) t0 (by omega) (by omega)) (by rw [ld_one]; exact hu)
  rw [hM1] at S1
  have nw := nw_at 4 (by omega) (by omega)
  have hnil := nil_no
  clear hM1 l1 lb hmx hu
  go_enter Try.func5, Try.ntmps5
  go_wp2_with fail
  refine (nw.out _).mono ?_
  rintro e v1 ⟨rfl, hI1, hb1⟩
  have HI1 : Hid (IsRam v1 w.heap.size (w.heap.size + 1) (hasF 4) 4 (fun _ => 0) 0) := hI1
  have HB1 : Hid (Below w.heap.size w v1) := hb1
  clear hI1 hb1
  go_wp2_with fail
  refine (S1.out _ HI1.out).mono ?_
  rintro e v2 ⟨rfl, hI2, hb2⟩
  have HI2 : Hid (IsRam v2 w.heap.size (w.heap.size + 1) (hasF 4) 4 M1 2) := hI2
  have HB2 : Hid (Below w.heap.size v1 v2) := hb2
  clear hI2 hb2
  go_wp2_with fail
  refine (O1.out _ HI2.out).mono ?_
  rintro e v3 ⟨rfl, hI3, hb3⟩
  have HI3 : Hid (IsRam v3 w.heap.size (w.heap.size + 1) (hasF 4) 4 M1 2) := hI3
  have HB3 : Hid (Below w.heap.size v2 v3) := hb3
  clear hI3 hb3
  have HC : Hid (Below w.heap.size w v3) := (HB1.out.trans HB2.out).trans HB3.out
  clear HB1 HB2 HB3 HI1 HI2 S1 O1
  go_wp2_with fail
  go_loopw [15] (fun i wr => ∃ j : Int, 0 ≤ j ∧ j ≤ 8 ∧ i = .int .i64 j ∧ Hid (IsRam wr w.heap.size (w.heap.size + 1) (hasF 4) 4 M1 2) ∧ Hid (Below w.heap.size v3 wr)) (fun i _ => (8 - intOf i).toNat)
  case atStart => exact ⟨0, by omega, by omega, rfl, HI3, Below.refl _ _⟩
  case round =>
    obtain ⟨j, j0, j1, rfl, HJ, HK⟩ := hrel
    by_cases cj : j < 8
    · have oj := OJ.out j j0 cj
      obtain ⟨y, hy⟩ : ∃ y : Int, x / 2 ^ (8 * j).toNat = y := ⟨_, rfl⟩
      have y0 : 0 ≤ y := by rw [← hy]; exact Int.ediv_nonneg x0 (Int.le_of_lt (Int.pow_pos (by omega)))
      have y1 : y < 18446744073709551616 := by rw [← hy]; exact Int.lt_of_le_of_lt (Int.ediv_le_self _ x0) x1
      rw [hy] at oj
      go_wp2_with fail
      refine (oj.out _ HJ.out).mono ?_
      rintro e v4 ⟨rfl, hI4, hb4⟩
      have HI4 : Hid (IsRam v4 w.heap.size (w.heap.size + 1) (hasF 4) 4 M1 2) := hI4
      have HB4 : Hid (Below w.heap.size v3 v4) := HK.out.trans hb4
      clear hI4 hb4
      go_wp2_with fail
      exact ⟨⟨j + 1, by omega, by omega, rfl, HI4, HB4⟩, by simp [intOf]; omega⟩
    · have ej : j = 8 := by omega
      subst ej
      go_wp2_with fail
      refine (OT.out _ HJ.out).mono ?_
      rintro e v4 ⟨rfl, hI4, hb4⟩
      have HI4 : Hid (IsRam v4 w.heap.size (w.heap.size + 1) (hasF 4) 4 M1 2) := hI4
      have HB4 : Hid (Below w.heap.size v3 v4) := HK.out.trans hb4
      clear hI4 hb4
      go_wp2_with fail
      refine (awake_any _).mono ?_
      rintro e v5 ⟨rfl, hb5⟩
      have HF : Hid (Below w.heap.size w v5) := (HC.out.trans HB4.out).trans (hb5.mono HI4.out.size)
      clear hb5
      go_wp2_with fail
      go_ret
      exact ⟨rfl, HF.out⟩
end Go.Proofs.Ytpfmkhnogobioaa
