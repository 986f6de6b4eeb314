/- The contracts of the document's Reserved, Pack, Unpack and Join. -/
import Derived.Test.YtnjoiknfaibheaaDoorP10
import Derived.Deep.QuietTactic
import Derived.BigQuiet
namespace Go.Proofs.YtnjoiknfaibheaaDoor
open Go.ChangeShapes Go.WideShapes Go.ChangeAt Go.RowKit
set_option linter.unusedSimpArgs false
set_option linter.unusedVariables false

set_option maxHeartbeats 400000 in
theorem rreserved_any (x level : Int) (x0 : 0 ≤ x) (x1 : x < 18446744073709551616) (w : World) :
    Calls Tryd.prog 15 #[.int .u64 x, .int .i64 level] w fun e w' => e = .returned (.bool (resV x level)) ∧ w' = w := by
  have B := bit_c x x0 x1
  have B0 := B.out 0 (by omega) (by omega)
  have B7 := B.out 7 (by omega) (by omega)
  rw [show (0 : Int).toNat = 0 from rfl, Int.pow_zero, Int.ediv_one] at B0
  rw [show (7 : Int).toNat = 7 from rfl, show (2 : Int) ^ 7 = 128 from by decide] at B7
  have N1 := any_any x x0 x1 32 19 (by omega)
  have N2 := any_any x x0 x1 12 8 (by omega)
  simp only [Nat.reduceAdd, Int.reducePow] at N1 N2
  unfold resV
  generalize (x / 4294967296 % 1048576 != 0) = A at *
  generalize (x / 4096 % 512 != 0) = C at *
  generalize bt (x / 128) = L at *
  generalize bt x = P at *
  have H0 : Hid (∀ w : World, Calls Tryd.prog 23 #[.int .u64 x, .int .i64 0] w fun e w' => e = .returned (.bool P) ∧ w' = w) := B0
  have H7 : Hid (∀ w : World, Calls Tryd.prog 23 #[.int .u64 x, .int .i64 7] w fun e w' => e = .returned (.bool L) ∧ w' = w) := B7
  have H1 : Hid (∀ w : World, Calls Tryd.prog 25 #[.int .u64 x, .int .i64 32, .int .i64 51] w fun e w' => e = .returned (.bool A) ∧ w' = w) := N1
  have H2 : Hid (∀ w : World, Calls Tryd.prog 25 #[.int .u64 x, .int .i64 12, .int .i64 20] w fun e w' => e = .returned (.bool C) ∧ w' = w) := N2
  clear B B0 B7 N1 N2
  obtain ⟨R, hR⟩ : ∃ R, (P && (A || if 3 ≤ level then L else level == 2 && L && C)) = R := ⟨_, rfl⟩
  rw [hR]
  cases P
  · have HR : Hid (false = R) := hR
    clear hR
    go_enter Tryd.func15, Tryd.ntmps15
    go_wp2_with fail
    refine (H0.out _).mono ?_
    rintro e w1 ⟨rfl, rfl⟩
    go_wp2_with fail
    go_ret
    exact ⟨by rw [← HR.out]; rfl, rfl⟩
  · cases A
    · by_cases h3 : 3 ≤ level
      · rw [if_pos h3] at hR
        have HR : Hid (L = R) := by rw [← hR]; rfl
        clear hR
        go_enter Tryd.func15, Tryd.ntmps15
        go_wp2_with fail
        refine (H0.out _).mono ?_
        rintro e w1 ⟨rfl, rfl⟩
        go_wp2_with fail
        refine (H1.out _).mono ?_
        rintro e w1 ⟨rfl, rfl⟩
        go_wp2_with fail
        refine (H7.out _).mono ?_
        rintro e w1 ⟨rfl, rfl⟩
        go_wp2_with fail
        go_ret
        exact ⟨by rw [← HR.out]; rfl, rfl⟩
      · rw [if_neg h3] at hR
        have h3' : level < 3 := by omega
        clear h3
        by_cases h2 : level = 2
        · subst h2
          cases L
          · have HR : Hid (false = R) := hR
            clear hR
            go_enter Tryd.func15, Tryd.ntmps15
            go_wp2_with fail
            refine (H0.out _).mono ?_
            rintro e w1 ⟨rfl, rfl⟩
            go_wp2_with fail
            refine (H1.out _).mono ?_
            rintro e w1 ⟨rfl, rfl⟩
            go_wp2_with fail
            refine (H7.out _).mono ?_
            rintro e w1 ⟨rfl, rfl⟩
            go_wp2_with fail
            go_ret
            exact ⟨by rw [← HR.out]; rfl, rfl⟩
          · have HR : Hid (C = R) := hR
            clear hR
            go_enter Tryd.func15, Tryd.ntmps15
            go_wp2_with fail
            refine (H0.out _).mono ?_
            rintro e w1 ⟨rfl, rfl⟩
            go_wp2_with fail
            refine (H1.out _).mono ?_
            rintro e w1 ⟨rfl, rfl⟩
            go_wp2_with fail
            refine (H7.out _).mono ?_
            rintro e w1 ⟨rfl, rfl⟩
            go_wp2_with fail
            refine (H2.out _).mono ?_
            rintro e w1 ⟨rfl, rfl⟩
            go_wp2_with fail
            go_ret
            exact ⟨by rw [← HR.out]; rfl, rfl⟩
        · have h2' : (level == 2) = false := by simp [h2]
          have HR : Hid (false = R) := by rw [← hR, h2']; rfl
          clear h2 hR
          go_enter Tryd.func15, Tryd.ntmps15
          go_wp2_with fail
          refine (H0.out _).mono ?_
          rintro e w1 ⟨rfl, rfl⟩
          go_wp2_with fail
          refine (H1.out _).mono ?_
          rintro e w1 ⟨rfl, rfl⟩
          go_wp2_with fail
          go_ret
          exact ⟨by rw [← HR.out]; rfl, rfl⟩
    · have HR : Hid (true = R) := by rw [← hR]; rfl
      clear hR
      go_enter Tryd.func15, Tryd.ntmps15
      go_wp2_with fail
      refine (H0.out _).mono ?_
      rintro e w1 ⟨rfl, rfl⟩
      go_wp2_with fail
      refine (H1.out _).mono ?_
      rintro e w1 ⟨rfl, rfl⟩
      go_wp2_with fail
      go_ret
      exact ⟨by rw [← HR.out]; rfl, rfl⟩
set_option maxHeartbeats 400000 in
theorem runpack_any (x : Int) (x0 : 0 ≤ x) (x1 : x < 18446744073709551616) (w : World) :
    Calls Tryd.prog 12 #[.int .u64 x] w fun e w' => e = .returned (unp x) ∧ Below w.heap.size w w' := by
  have B := bit_c x x0 x1
  have B0 : Hid (∀ w : World, Calls Tryd.prog 23 #[.int .u64 x, .int .i64 0] w fun e w' => e = .returned (.bool (bt (x))) ∧ w' = w) := fun w => by
    have := B.out 0 (by omega) (by omega) w
    rw [show (0 : Int).toNat = 0 from rfl, Int.pow_zero, Int.ediv_one] at this; exact this
  have B1 : Hid (∀ w : World, Calls Tryd.prog 23 #[.int .u64 x, .int .i64 1] w fun e w' => e = .returned (.bool (bt (x / 2))) ∧ w' = w) := fun w => by
    have := B.out 1 (by omega) (by omega) w
    rw [show (1 : Int).toNat = 1 from rfl, show (2 : Int) ^ 1 = 2 from by decide] at this; exact this
  have B2 : Hid (∀ w : World, Calls Tryd.prog 23 #[.int .u64 x, .int .i64 2] w fun e w' => e = .returned (.bool (bt (x / 4))) ∧ w' = w) := fun w => by
    have := B.out 2 (by omega) (by omega) w
    rw [show (2 : Int).toNat = 2 from rfl, show (2 : Int) ^ 2 = 4 from by decide] at this; exact this
  have B5 : Hid (∀ w : World, Calls Tryd.prog 23 #[.int .u64 x, .int .i64 5] w fun e w' => e = .returned (.bool (bt (x / 32))) ∧ w' = w) := fun w => by
    have := B.out 5 (by omega) (by omega) w
    rw [show (5 : Int).toNat = 5 from rfl, show (2 : Int) ^ 5 = 32 from by decide] at this; exact this
  have B6 : Hid (∀ w : World, Calls Tryd.prog 23 #[.int .u64 x, .int .i64 6] w fun e w' => e = .returned (.bool (bt (x / 64))) ∧ w' = w) := fun w => by
    have := B.out 6 (by omega) (by omega) w
    rw [show (6 : Int).toNat = 6 from rfl, show (2 : Int) ^ 6 = 64 from by decide] at this; exact this
  have B7 : Hid (∀ w : World, Calls Tryd.prog 23 #[.int .u64 x, .int .i64 7] w fun e w' => e = .returned (.bool (bt (x / 128))) ∧ w' = w) := fun w => by
    have := B.out 7 (by omega) (by omega) w
    rw [show (7 : Int).toNat = 7 from rfl, show (2 : Int) ^ 7 = 128 from by decide] at this; exact this
  have B8 : Hid (∀ w : World, Calls Tryd.prog 23 #[.int .u64 x, .int .i64 8] w fun e w' => e = .returned (.bool (bt (x / 256))) ∧ w' = w) := fun w => by
    have := B.out 8 (by omega) (by omega) w
    rw [show (8 : Int).toNat = 8 from rfl, show (2 : Int) ^ 8 = 256 from by decide] at this; exact this
  have B63 : Hid (∀ w : World, Calls Tryd.prog 23 #[.int .u64 x, .int .i64 63] w fun e w' => e = .returned (.bool (bt (x / 9223372036854775808))) ∧ w' = w) := fun w => by
    have := B.out 63 (by omega) (by omega) w
    rw [show (63 : Int).toNat = 63 from rfl, show (2 : Int) ^ 63 = 9223372036854775808 from by decide] at this; exact this
  clear B
  go_enter Tryd.func12, Tryd.ntmps12
  go_wp2_with fail
  refine (B0.out _).mono ?_
  rintro e w1 ⟨rfl, rfl⟩
  go_wp2_with fail
  refine (B1.out _).mono ?_
  rintro e w1 ⟨rfl, rfl⟩
  go_wp2_with fail
  refine (B2.out _).mono ?_
  rintro e w1 ⟨rfl, rfl⟩
  go_wp2_with fail
  refine (B5.out _).mono ?_
  rintro e w1 ⟨rfl, rfl⟩
  go_wp2_with fail
  refine (B6.out _).mono ?_
  rintro e w1 ⟨rfl, rfl⟩
  go_wp2_with fail
  refine (B7.out _).mono ?_
  rintro e w1 ⟨rfl, rfl⟩
  go_wp2_with fail
  refine (B8.out _).mono ?_
  rintro e w1 ⟨rfl, rfl⟩
  go_wp2_with fail
  refine (B63.out _).mono ?_
  rintro e w1 ⟨rfl, rfl⟩
  go_wp2_with fail
  go_returns
  exact ⟨rfl, Go.Joins.below_alloc1 _ _⟩
theorem rjoin_val (a b c d o : Int) (a0 : 0 ≤ a) (a1 : a < 512) (b0 : 0 ≤ b) (b1 : b < 512) (c0 : 0 ≤ c) (c1 : c < 512) (d0 : 0 ≤ d) (d1 : d < 512) (o0 : 0 ≤ o) (o1 : o < 4096) :
    ext ((((a * 512 + b) * 512 + c) * 512 + d) * 4096 + o) = if 256 ≤ a then (((a * 512 + b) * 512 + c) * 512 + d) * 4096 + o + 18446462598732840960 else (((a * 512 + b) * 512 + c) * 512 + d) * 4096 + o := by
  unfold ext; split <;> split <;> omega
set_option maxHeartbeats 400000 in
theorem rjoin_lo (a b c d o : Int) (a0 : 0 ≤ a) (a1 : a < 256) (b0 : 0 ≤ b) (b1 : b < 512) (c0 : 0 ≤ c) (c1 : c < 512) (d0 : 0 ≤ d) (d1 : d < 512) (o0 : 0 ≤ o) (o1 : o < 4096) (w : World) :
    Calls Tryd.prog 21 #[.int .i64 a, .int .i64 b, .int .i64 c, .int .i64 d, .int .i64 o] w fun e w' => e = .returned (.int .u64 (ext ((((a * 512 + b) * 512 + c) * 512 + d) * 4096 + o))) ∧ w' = w := by
  rw [rjoin_val a b c d o a0 (by omega) b0 b1 c0 c1 d0 d1 o0 o1, if_neg (by omega)]
  go_enter Tryd.func21, Tryd.ntmps21
  go_wp2
  go_ret
  exact ⟨rfl, rfl⟩
set_option maxHeartbeats 400000 in
theorem rjoin_hi (a b c d o : Int) (a0 : 256 ≤ a) (a1 : a < 512) (b0 : 0 ≤ b) (b1 : b < 512) (c0 : 0 ≤ c) (c1 : c < 512) (d0 : 0 ≤ d) (d1 : d < 512) (o0 : 0 ≤ o) (o1 : o < 4096) (w : World) :
    Calls Tryd.prog 21 #[.int .i64 a, .int .i64 b, .int .i64 c, .int .i64 d, .int .i64 o] w fun e w' => e = .returned (.int .u64 (ext ((((a * 512 + b) * 512 + c) * 512 + d) * 4096 + o))) ∧ w' = w := by
  rw [rjoin_val a b c d o (by omega) a1 b0 b1 c0 c1 d0 d1 o0 o1, if_pos a0]
  go_enter Tryd.func21, Tryd.ntmps21
  go_wp2
  go_ret
  exact ⟨rfl, rfl⟩
theorem rjoin_ok (a b c d o : Int) (a0 : 0 ≤ a) (a1 : a < 512) (b0 : 0 ≤ b) (b1 : b < 512) (c0 : 0 ≤ c) (c1 : c < 512) (d0 : 0 ≤ d) (d1 : d < 512) (o0 : 0 ≤ o) (o1 : o < 4096) (w : World) :
    Calls Tryd.prog 21 #[.int .i64 a, .int .i64 b, .int .i64 c, .int .i64 d, .int .i64 o] w fun e w' => e = .returned (.int .u64 (ext ((((a * 512 + b) * 512 + c) * 512 + d) * 4096 + o))) ∧ w' = w := by
  by_cases h : 256 ≤ a
  · exact rjoin_hi a b c d o h a1 b0 b1 c0 c1 d0 d1 o0 o1 w
  · exact rjoin_lo a b c d o a0 (by omega) b0 b1 c0 c1 d0 d1 o0 o1 w
theorem below_draws_alloc (w : World) (o : Obj) (n : Nat) : Below w.heap.size w ((w.alloc o).drewN n) := (Go.Joins.below_alloc1 w o).trans (Go.Joins.below_draws _ _ _)
set_option maxHeartbeats 400000 in
theorem one_0 (b : Bool) (w : World) : Calls Tryd.prog 24 #[.bool b, .int .i64 0] w fun e w' => e = .returned (.int .u64 (fl b 1)) ∧ w' = w := by
  cases b
  · go_enter Tryd.func24, Tryd.ntmps24
    go_wp2
    go_ret
    exact ⟨rfl, rfl⟩
  · go_enter Tryd.func24, Tryd.ntmps24
    go_wp2
    go_ret
    exact ⟨rfl, rfl⟩
set_option maxHeartbeats 400000 in
theorem one_1 (b : Bool) (w : World) : Calls Tryd.prog 24 #[.bool b, .int .i64 1] w fun e w' => e = .returned (.int .u64 (fl b 2)) ∧ w' = w := by
  cases b
  · go_enter Tryd.func24, Tryd.ntmps24
    go_wp2
    go_ret
    exact ⟨rfl, rfl⟩
  · go_enter Tryd.func24, Tryd.ntmps24
    go_wp2
    go_ret
    exact ⟨rfl, rfl⟩
set_option maxHeartbeats 400000 in
theorem one_2 (b : Bool) (w : World) : Calls Tryd.prog 24 #[.bool b, .int .i64 2] w fun e w' => e = .returned (.int .u64 (fl b 4)) ∧ w' = w := by
  cases b
  · go_enter Tryd.func24, Tryd.ntmps24
    go_wp2
    go_ret
    exact ⟨rfl, rfl⟩
  · go_enter Tryd.func24, Tryd.ntmps24
    go_wp2
    go_ret
    exact ⟨rfl, rfl⟩
set_option maxHeartbeats 400000 in
theorem one_5 (b : Bool) (w : World) : Calls Tryd.prog 24 #[.bool b, .int .i64 5] w fun e w' => e = .returned (.int .u64 (fl b 32)) ∧ w' = w := by
  cases b
  · go_enter Tryd.func24, Tryd.ntmps24
    go_wp2
    go_ret
    exact ⟨rfl, rfl⟩
  · go_enter Tryd.func24, Tryd.ntmps24
    go_wp2
    go_ret
    exact ⟨rfl, rfl⟩
set_option maxHeartbeats 400000 in
theorem one_6 (b : Bool) (w : World) : Calls Tryd.prog 24 #[.bool b, .int .i64 6] w fun e w' => e = .returned (.int .u64 (fl b 64)) ∧ w' = w := by
  cases b
  · go_enter Tryd.func24, Tryd.ntmps24
    go_wp2
    go_ret
    exact ⟨rfl, rfl⟩
  · go_enter Tryd.func24, Tryd.ntmps24
    go_wp2
    go_ret
    exact ⟨rfl, rfl⟩
set_option maxHeartbeats 400000 in
theorem one_7 (b : Bool) (w : World) : Calls Tryd.prog 24 #[.bool b, .int .i64 7] w fun e w' => e = .returned (.int .u64 (fl b 128)) ∧ w' = w := by
  cases b
  · go_enter Tryd.func24, Tryd.ntmps24
    go_wp2
    go_ret
    exact ⟨rfl, rfl⟩
  · go_enter Tryd.func24, Tryd.ntmps24
    go_wp2
    go_ret
    exact ⟨rfl, rfl⟩
set_option maxHeartbeats 400000 in
theorem one_8 (b : Bool) (w : World) : Calls Tryd.prog 24 #[.bool b, .int .i64 8] w fun e w' => e = .returned (.int .u64 (fl b 256)) ∧ w' = w := by
  cases b
  · go_enter Tryd.func24, Tryd.ntmps24
    go_wp2
    go_ret
    exact ⟨rfl, rfl⟩
  · go_enter Tryd.func24, Tryd.ntmps24
    go_wp2
    go_ret
    exact ⟨rfl, rfl⟩
set_option maxHeartbeats 400000 in
theorem one_63 (b : Bool) (w : World) : Calls Tryd.prog 24 #[.bool b, .int .i64 63] w fun e w' => e = .returned (.int .u64 (fl b 9223372036854775808)) ∧ w' = w := by
  cases b
  · go_enter Tryd.func24, Tryd.ntmps24
    go_wp2
    go_ret
    exact ⟨rfl, rfl⟩
  · go_enter Tryd.func24, Tryd.ntmps24
    go_wp2
    go_ret
    exact ⟨rfl, rfl⟩
set_option maxHeartbeats 1000000 in
theorem rpack_walk (p q u a d l g n : Bool) (f : Int) (f0 : 0 ≤ f) (f1 : f < 1048576) (X0 X1 X2 X5 X6 X7 X8 X63 : Int) (h0 : Hid (fl p 1 = X0)) (h1 : Hid (fl q 2 = X1)) (h2 : Hid (fl u 4 = X2)) (h5 : Hid (fl a 32 = X5)) (h6 : Hid (fl d 64 = X6)) (h7 : Hid (fl l 128 = X7)) (h8 : Hid (fl g 256 = X8)) (h63 : Hid (fl n 9223372036854775808 = X63)) (l0 : 0 ≤ X0) (m0 : X0 ≤ 1) (l1 : 0 ≤ X1) (m1 : X1 ≤ 2) (l2 : 0 ≤ X2) (m2 : X2 ≤ 4) (l5 : 0 ≤ X5) (m5 : X5 ≤ 32) (l6 : 0 ≤ X6) (m6 : X6 ≤ 64) (l7 : 0 ≤ X7) (m7 : X7 ≤ 128) (l8 : 0 ≤ X8) (m8 : X8 ≤ 256) (l63 : 0 ≤ X63) (m63 : X63 ≤ 9223372036854775808) (w : World) :
    Calls Tryd.prog 13 #[.agg #[.bool p, .bool q, .bool u, .bool a, .bool d, .bool l, .bool g, .bool n, .int .i64 f]] w fun e w' => e = .returned (.int .u64 (X0 + X1 + X2 + X5 + X6 + X7 + X8 + X63 + f * 4096)) ∧ Below w.heap.size w w' := by
  have B0 : Hid (∀ w : World, Calls Tryd.prog 24 #[.bool p, .int .i64 0] w fun e w' => e = .returned (.int .u64 X0) ∧ w' = w) := fun w => by rw [← h0.out]; exact one_0 p w
  have B1 : Hid (∀ w : World, Calls Tryd.prog 24 #[.bool q, .int .i64 1] w fun e w' => e = .returned (.int .u64 X1) ∧ w' = w) := fun w => by rw [← h1.out]; exact one_1 q w
  have B2 : Hid (∀ w : World, Calls Tryd.prog 24 #[.bool u, .int .i64 2] w fun e w' => e = .returned (.int .u64 X2) ∧ w' = w) := fun w => by rw [← h2.out]; exact one_2 u w
  have B5 : Hid (∀ w : World, Calls Tryd.prog 24 #[.bool a, .int .i64 5] w fun e w' => e = .returned (.int .u64 X5) ∧ w' = w) := fun w => by rw [← h5.out]; exact one_5 a w
  have B6 : Hid (∀ w : World, Calls Tryd.prog 24 #[.bool d, .int .i64 6] w fun e w' => e = .returned (.int .u64 X6) ∧ w' = w) := fun w => by rw [← h6.out]; exact one_6 d w
  have B7 : Hid (∀ w : World, Calls Tryd.prog 24 #[.bool l, .int .i64 7] w fun e w' => e = .returned (.int .u64 X7) ∧ w' = w) := fun w => by rw [← h7.out]; exact one_7 l w
  have B8 : Hid (∀ w : World, Calls Tryd.prog 24 #[.bool g, .int .i64 8] w fun e w' => e = .returned (.int .u64 X8) ∧ w' = w) := fun w => by rw [← h8.out]; exact one_8 g w
  have B63 : Hid (∀ w : World, Calls Tryd.prog 24 #[.bool n, .int .i64 63] w fun e w' => e = .returned (.int .u64 X63) ∧ w' = w) := fun w => by rw [← h63.out]; exact one_63 n w
  clear h0 h1 h2 h5 h6 h7 h8 h63
  go_enter Tryd.func13, Tryd.ntmps13
  go_wp2_with fail
  go_quiet (first | (go_at_call 24; first | (with_reducible exact Calls.quiet_of_same (B0.out _)) | (with_reducible exact Calls.quiet_of_same (B1.out _)) | (with_reducible exact Calls.quiet_of_same (B2.out _)) | (with_reducible exact Calls.quiet_of_same (B5.out _)) | (with_reducible exact Calls.quiet_of_same (B6.out _)) | (with_reducible exact Calls.quiet_of_same (B7.out _)) | (with_reducible exact Calls.quiet_of_same (B8.out _)) | (with_reducible exact Calls.quiet_of_same (B63.out _))))
  go_wp2
  go_ret
  exact ⟨rfl, below_draws_alloc _ _ _⟩
theorem rpack_ok (p q u a d l g n : Bool) (f : Int) (f0 : 0 ≤ f) (f1 : f < 1048576) (w : World) :
    Calls Tryd.prog 13 #[.agg #[.bool p, .bool q, .bool u, .bool a, .bool d, .bool l, .bool g, .bool n, .int .i64 f]] w fun e w' => e = .returned (.int .u64 (packV p q u a d l g n f)) ∧ Below w.heap.size w w' := by
  have h0 := fl_bd p 1 (by omega)
  have h1 := fl_bd q 2 (by omega)
  have h2 := fl_bd u 4 (by omega)
  have h5 := fl_bd a 32 (by omega)
  have h6 := fl_bd d 64 (by omega)
  have h7 := fl_bd l 128 (by omega)
  have h8 := fl_bd g 256 (by omega)
  have h63 := fl_bd n 9223372036854775808 (by omega)
  have e : packV p q u a d l g n f = fl p 1 + fl q 2 + fl u 4 + fl a 32 + fl d 64 + fl l 128 + fl g 256 + fl n 9223372036854775808 + f * 4096 := by unfold packV; omega
  rw [e]
  exact rpack_walk p q u a d l g n f f0 f1 _ _ _ _ _ _ _ _ rfl rfl rfl rfl rfl rfl rfl rfl h0.1 h0.2 h1.1 h1.2 h2.1 h2.2 h5.1 h5.2 h6.1 h6.2 h7.1 h7.2 h8.1 h8.2 h63.1 h63.2 w
end Go.Proofs.YtnjoiknfaibheaaDoor
