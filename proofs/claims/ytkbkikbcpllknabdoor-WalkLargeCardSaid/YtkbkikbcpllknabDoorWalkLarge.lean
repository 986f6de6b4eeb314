/- WalkLarge: a large page leads to 512 frames in a row, one for each number of level 1; a bit of its frame that should be nought is told. No condition. -/
import Derived.Test.YtkbkikbcpllknabDoorRows
import Derived.Test.YtkbkikbcpllknabDoorCards
import Derived.Test.YtkbkikbcpllknabDoorTie
import Derived.ProofKit
import Derived.OpenShut
import Derived.Stop.Joined
import Derived.SevenTiedAt
import Derived.Test.YtkbkikbcpllknabDoorV3
namespace Go.Proofs.YtkbkikbcpllknabDoor.walkLarge
open Go.ChangeShapes Go.WideShapes Go.ChangeAt Go.RowKit
set_option linter.unusedSimpArgs false
set_option linter.unusedVariables false
set_option maxRecDepth 8000
def AL (X : Int) (k : Nat) : Pt := [Pt.mk 0 0 4103, ⟨1, 0, 8199⟩, ⟨2, 3, X⟩][k]?.getD ⟨0, 0, 0⟩
theorem or_high (q : Int) (k b : Nat) (h0 : 0 ≤ q) (hk : q * 2 ^ k < 18446744073709551616) (hb : b < 2 ^ k) (h64 : b < 18446744073709551616) : bits .or .u64 (q * 2 ^ k) b = q * 2 ^ k + b := by
  have p : 0 < (2 : Int) ^ k := Int.pow_pos (by omega)
  have nn : 0 ≤ q * 2 ^ k := Int.mul_nonneg h0 (Int.le_of_lt p)
  rw [u64_or _ _ nn hk (by omega) (by omega)]
  have e : (q * 2 ^ k).toNat = 2 ^ k * q.toNat := by
    obtain ⟨n, rfl⟩ : ∃ n : Nat, q = n := ⟨q.toNat, by omega⟩
    rw [Int.toNat_natCast, Nat.mul_comm]
    have : ((n : Int) * 2 ^ k) = ((n * 2 ^ k : Nat) : Int) := by simp
    rw [this, Int.toNat_natCast]
  rw [e, show (b : Int).toNat = b by simp, ← Nat.two_pow_add_eq_or_of_lt hb]
  have : ((2 ^ k * q.toNat : Nat) : Int) = q * 2 ^ k := by rw [← e]; omega
  omega
theorem or_bits (q : Int) (c : Nat) (h0 : 0 ≤ q) (h1 : q < 2048) (hc : c < 2097152) (d : Nat) (hd : d < 2097152) (e : 135 ||| c = d) : bits .or .u64 (q * 2097152 + 135) c = q * 2097152 + d := by
  rw [u64_or _ _ (by omega) (by omega) (by omega) (by omega)]
  have t : (q * 2097152 + 135).toNat = 2 ^ 21 * q.toNat + 135 := by omega
  rw [t, show (c : Int).toNat = c by simp, Nat.two_pow_add_eq_or_of_lt (show 135 < 2 ^ 21 by omega), Nat.or_assoc, e, ← Nat.two_pow_add_eq_or_of_lt (show d < 2 ^ 21 by omega)]
  omega
theorem lay3 (X : Int) (hx : 0 ≤ X) : layM (AL X) 3 = mset (mset (mset (fun _ => 0) (8 * 0) 8 4103) (8 * 512) 8 8199) (8 * 1027) 8 X := by
  show (if (AL X 2).ok then mset (if (AL X 1).ok then mset (if (AL X 0).ok then mset (fun _ => 0) ((AL X 0).fr * 4096 + 8 * (AL X 0).at') 8 (AL X 0).x else fun _ => 0) ((AL X 1).fr * 4096 + 8 * (AL X 1).at') 8 (AL X 1).x else _) ((AL X 2).fr * 4096 + 8 * (AL X 2).at') 8 (AL X 2).x else _) = _
  have k0 : (AL X 0).ok := by unfold Pt.ok AL; simp
  have k1 : (AL X 1).ok := by unfold Pt.ok AL; simp
  have k2 : (AL X 2).ok := by unfold Pt.ok AL; simp
  rw [if_pos k0, if_pos k1, if_pos k2]
  rfl
theorem ents (X : Int) (h0 : 0 ≤ X) (h1 : X < 18446744073709551616) : entV (layM (AL X) 3) 0 0 = 4103 ∧ entV (layM (AL X) 3) 1 0 = 8199 ∧ entV (layM (AL X) 3) 2 3 = X := by
  rw [lay3 X h0]
  refine ⟨?_, ?_, ?_⟩
  · rw [ent_set _ _ _ _ _ h0 h1, if_neg (by omega), ent_set _ _ _ _ _ (by omega) (by omega), if_neg (by omega), ent_set _ _ _ _ _ (by omega) (by omega), if_pos (by omega)]
  · rw [ent_set _ _ _ _ _ h0 h1, if_neg (by omega), ent_set _ _ _ _ _ (by omega) (by omega), if_pos (by omega)]
  · rw [ent_set _ _ _ _ _ h0 h1, if_pos (by omega)]
theorem to_large (X at' : Int) (h0 : 0 ≤ X) (h1 : X < 18446744073709551616) (a0 : 0 ≤ at') (a1 : at' ≤ 511) (x u f : Bool) :
    walkW Has8 (layM (AL X) 3) 0 (6291461 + at' * 4096) x u f = walk2 Has8 (layM (AL X) 3) (6291461 + at' * 4096) (codeV x u f) 3 at' x u f (0 * 4096 + 0 * 8) 4103 (1 * 4096 + 0 * 8) 8199 := by
  obtain ⟨e0, e1, e2⟩ := ents X h0 h1
  unfold walkW
  have ce : (ext (6291461 + at' * 4096) == 6291461 + at' * 4096) = true := by
    unfold ext
    rw [if_pos (by omega)]
    simp; omega
  rw [if_neg (by rw [ce]; simp), if_neg (by rw [has8]; simp)]
  rw [show (6291461 + at' * 4096) / 4096 / 512 / 512 / 512 % 512 = 0 by omega, show (6291461 + at' * 4096) / 4096 / 512 / 512 % 512 = 0 by omega, show (6291461 + at' * 4096) / 4096 / 512 % 512 = 3 by omega, show (6291461 + at' * 4096) / 4096 % 512 = at' by omega]
  have c0 : chkG Has8 (0 * 4096 + 0 * 8) 8 = 0 := by decide
  have c1 : chkG Has8 (1 * 4096 + 0 * 8) 8 = 0 := by decide
  unfold walk0
  have b0 : badV Has8 (layM (AL X) 3) 0 0 4 (6291461 + at' * 4096) (codeV x u f) = none := by
    unfold badV
    rw [e0, if_neg (by rw [c0]; simp), if_neg (by decide), if_neg (by decide)]
  rw [b0]
  simp only
  rw [e0]
  unfold walk1
  rw [show (4103 : Int) / 4096 % 1048576 = 1 from rfl]
  have b1 : badV Has8 (layM (AL X) 3) 1 0 3 (6291461 + at' * 4096) (codeV x u f) = none := by
    unfold badV
    rw [e1, if_neg (by rw [c1]; simp), if_neg (by decide), if_neg (by decide)]
  rw [b1]
  simp only
  rw [e1]
/-- a large page -/
theorem large_ok (q at' : Int) (h0 : 0 ≤ q) (h1 : q < 2048) (a0 : 0 ≤ at') (a1 : at' ≤ 511) (x u f : Bool) :
    (walkW Has8 (layM (AL (q * 2097152 + 135)) 3) 0 (6291461 + at' * 4096) x u f).er = 0 ∧ (walkW Has8 (layM (AL (q * 2097152 + 135)) 3) 0 (6291461 + at' * 4096) x u f).l = true ∧ (walkW Has8 (layM (AL (q * 2097152 + 135)) 3) 0 (6291461 + at' * 4096) x u f).fr = q * 512 + at' ∧ (walkW Has8 (layM (AL (q * 2097152 + 135)) 3) 0 (6291461 + at' * 4096) x u f).d = x := by
  obtain ⟨e0, e1, e2⟩ := ents (q * 2097152 + 135) (by omega) (by omega)
  rw [to_large _ at' (by omega) (by omega) a0 a1]
  have c2 : chkG Has8 (2 * 4096 + 3 * 8) 8 = 0 := by decide
  unfold walk2
  rw [show (8199 : Int) / 4096 % 1048576 = 2 from rfl]
  have t1 : bt (q * 2097152 + 135) = true := by unfold bt; simp; omega
  have t7 : bt ((q * 2097152 + 135) / 128) = true := by unfold bt; simp; omega
  have b2 : badV Has8 (layM (AL (q * 2097152 + 135)) 3) 2 3 2 (6291461 + at' * 4096) (codeV x u f) = none := by
    have rs : resV (q * 2097152 + 135) 2 = false := by
      unfold resV
      rw [t1, t7, show (q * 2097152 + 135) / 4294967296 % 1048576 = 0 by omega, show (q * 2097152 + 135) / 4096 % 512 = 0 by omega]
      decide
    unfold badV
    rw [e2, if_neg (by rw [c2]; simp), if_neg (by rw [t1]; simp), if_neg (by rw [rs]; simp)]
  rw [b2]
  simp only
  rw [e2]
  unfold walk3
  rw [if_pos t7]
  unfold end3
  have u1 : bt ((q * 2097152 + 135) / 2) = true := by unfold bt; simp; omega
  have u2 : bt ((q * 2097152 + 135) / 4) = true := by unfold bt; simp; omega
  have u3 : bt ((q * 2097152 + 135) / 9223372036854775808) = false := by unfold bt; simp; omega
  have u6 : bt ((q * 2097152 + 135) / 64) = false := by unfold bt; simp; omega
  rw [u1, u2, u3, u6]
  have m : mayV ((true && bt (4103 / 2)) && bt (8199 / 2) && true) ((true && bt (4103 / 4)) && bt (8199 / 4) && true) ((true && !bt (4103 / 9223372036854775808)) && !bt (8199 / 9223372036854775808) && !false) x u f = true := by
    cases x <;> cases u <;> cases f <;> decide
  rw [if_pos m]
  refine ⟨rfl, rfl, ?_, by simp⟩
  show (q * 2097152 + 135) / 4096 % 1048576 + at' = _
  omega
/-- a bit that should be nought -/
theorem large_bad (q at' : Int) (d : Nat) (h0 : 0 ≤ q) (h1 : q < 2048) (hd : d < 2097152) (d1 : d % 256 = 135) (d2 : d / 4096 ≠ 0) (a0 : 0 ≤ at') (a1 : at' ≤ 511) (x u f : Bool) :
    (walkW Has8 (layM (AL (q * 2097152 + d)) 3) 0 (6291461 + at' * 4096) x u f).er = 9 ∧ bits .and .i64 (walkW Has8 (layM (AL (q * 2097152 + d)) 3) 0 (6291461 + at' * 4096) x u f).fc 9 = 9 := by
  obtain ⟨e0, e1, e2⟩ := ents (q * 2097152 + d) (by omega) (by omega)
  rw [to_large _ at' (by omega) (by omega) a0 a1]
  have c2 : chkG Has8 (2 * 4096 + 3 * 8) 8 = 0 := by decide
  unfold walk2
  rw [show (8199 : Int) / 4096 % 1048576 = 2 from rfl]
  have t1 : bt (q * 2097152 + d) = true := by unfold bt; simp; omega
  have t7 : bt ((q * 2097152 + d) / 128) = true := by unfold bt; simp; omega
  have b2 : badV Has8 (layM (AL (q * 2097152 + d)) 3) 2 3 2 (6291461 + at' * 4096) (codeV x u f) = some (6291461 + at' * 4096, codeV x u f + 9, 9) := by
    have rs : resV (q * 2097152 + d) 2 = true := by
      unfold resV
      rw [t1, t7]
      have : ((q * 2097152 + (d : Int)) / 4096 % 512 != 0) = true := by simp; omega
      rw [this]
      simp
    unfold badV
    rw [e2, if_neg (by rw [c2]; simp), if_neg (by rw [t1]; simp), if_pos rs]
  rw [b2]
  refine ⟨rfl, ?_⟩
  show bits .and .i64 (codeV x u f + 9) 9 = 9
  cases x <;> cases u <;> cases f <;> decide
theorem putsL (w : World) (X : Int) (hX : (Lit.int .u64 X).wf = true) (x u f : Bool) : IsPuts ((w.alloc (.cells #[.bool x, .bool u, .bool f] 23)).alloc (.cells #[.int .i64 0, .int .i64 0, .int .u64 4103, .int .i64 1, .int .i64 0, .int .u64 8199, .int .i64 2, .int .i64 3, .int .u64 X] 35)) (some ⟨w.heap.size + 1, 0, none⟩) 3 (AL X) := by
  have q := own_new (w.alloc (.cells #[.bool x, .bool u, .bool f] 23)) (.cells #[.int .i64 0, .int .i64 0, .int .u64 4103, .int .i64 1, .int .i64 0, .int .u64 8199, .int .i64 2, .int .i64 3, .int .u64 X] 35)
  rw [World.size_alloc] at q
  intro i hi
  refine ⟨w.heap.size + 1, 0, rfl, by rw [World.size_alloc, World.size_alloc]; omega, ?_⟩
  match i, hi with
  | 0, _ => exact ⟨Go.Joins.cell_of_block q 0, Go.Joins.cell_of_block q 1, Go.Joins.cell_of_block q 2, show (Lit.int .u64 4103).wf = true by decide⟩
  | 1, _ => exact ⟨Go.Joins.cell_of_block q 3, Go.Joins.cell_of_block q 4, Go.Joins.cell_of_block q 5, show (Lit.int .u64 8199).wf = true by decide⟩
  | 2, _ => exact ⟨Go.Joins.cell_of_block q 6, Go.Joins.cell_of_block q 7, Go.Joins.cell_of_block q 8, hX⟩

set_option maxHeartbeats 8000000 in
theorem walk (a0 : Int) (w0 : (Lit.int .i64 a0).wf = true) (a1 : Int) (w1 : (Lit.int .i64 a1).wf = true) (a2 : Int) (w2 : (Lit.int .i64 a2).wf = true) (s3 : B3) (w : World) (ht : Tab w)  :
    Calls Tryd.prog 3 #[.int .i64 a0, .int .i64 a1, .int .i64 a2, s3.val] w fun e w' => e = .returned (.bool true) ∧ Below w.heap.size w w' := by
  have mx : 1000 < maxLen := by decide +kernel
  have MX : Hid (1000 < maxLen) := mx
  clear mx
  have AW : Hid (∀ W : World, Below w.heap.size w W → Calls Tryd.prog 5 #[] W fun e w' => e = .returned (.bool true) ∧ Below W.heap.size W w') := fun W hb => awake_any W (ht.below hb ht.1)
  obtain ⟨x, u, f⟩ := s3
  clear w0 w1 w2
  by_cases o0 : a0 < 0
  · have do0 : decide (a0 < 0) = true := decide_eq_true o0
    have BU : Hid (Below w.heap.size w (w.alloc (.cells #[.bool x, .bool u, .bool f] 23))) := Go.Joins.below_alloc1 _ _
    go_enter Tryd.func3, Tryd.ntmps3
    go_wp2_with fail
    refine (AW.out _ BU.out).mono ?_
    rintro e u9 ⟨rfl, hb⟩
    have B9 : Hid (Below w.heap.size w u9) := below_next BU.out hb
    clear hb
    go_wp2_with fail
    go_ret
    exact ⟨rfl, B9.out⟩
  have do0 : decide (a0 < 0) = false := decide_eq_false o0
  by_cases o1 : 2048 ≤ a0
  · have do1 : decide (2048 ≤ a0) = true := decide_eq_true o1
    have BU : Hid (Below w.heap.size w (w.alloc (.cells #[.bool x, .bool u, .bool f] 23))) := Go.Joins.below_alloc1 _ _
    go_enter Tryd.func3, Tryd.ntmps3
    go_wp2_with fail
    refine (AW.out _ BU.out).mono ?_
    rintro e u9 ⟨rfl, hb⟩
    have B9 : Hid (Below w.heap.size w u9) := below_next BU.out hb
    clear hb
    go_wp2_with fail
    go_ret
    exact ⟨rfl, B9.out⟩
  have do1 : decide (2048 ≤ a0) = false := decide_eq_false o1
  by_cases o2 : a1 < 0
  · have do2 : decide (a1 < 0) = true := decide_eq_true o2
    have BU : Hid (Below w.heap.size w (w.alloc (.cells #[.bool x, .bool u, .bool f] 23))) := Go.Joins.below_alloc1 _ _
    go_enter Tryd.func3, Tryd.ntmps3
    go_wp2_with fail
    refine (AW.out _ BU.out).mono ?_
    rintro e u9 ⟨rfl, hb⟩
    have B9 : Hid (Below w.heap.size w u9) := below_next BU.out hb
    clear hb
    go_wp2_with fail
    go_ret
    exact ⟨rfl, B9.out⟩
  have do2 : decide (a1 < 0) = false := decide_eq_false o2
  by_cases o3 : 511 < a1
  · have do3 : decide (511 < a1) = true := decide_eq_true o3
    have BU : Hid (Below w.heap.size w (w.alloc (.cells #[.bool x, .bool u, .bool f] 23))) := Go.Joins.below_alloc1 _ _
    go_enter Tryd.func3, Tryd.ntmps3
    go_wp2_with fail
    refine (AW.out _ BU.out).mono ?_
    rintro e u9 ⟨rfl, hb⟩
    have B9 : Hid (Below w.heap.size w u9) := below_next BU.out hb
    clear hb
    go_wp2_with fail
    go_ret
    exact ⟨rfl, B9.out⟩
  have do3 : decide (511 < a1) = false := decide_eq_false o3
  by_cases o4 : a2 < 0
  · have do4 : decide (a2 < 0) = true := decide_eq_true o4
    have BU : Hid (Below w.heap.size w (w.alloc (.cells #[.bool x, .bool u, .bool f] 23))) := Go.Joins.below_alloc1 _ _
    go_enter Tryd.func3, Tryd.ntmps3
    go_wp2_with fail
    refine (AW.out _ BU.out).mono ?_
    rintro e u9 ⟨rfl, hb⟩
    have B9 : Hid (Below w.heap.size w u9) := below_next BU.out hb
    clear hb
    go_wp2_with fail
    go_ret
    exact ⟨rfl, B9.out⟩
  have do4 : decide (a2 < 0) = false := decide_eq_false o4
  by_cases o5 : 20 < a2
  · have do5 : decide (20 < a2) = true := decide_eq_true o5
    have BU : Hid (Below w.heap.size w (w.alloc (.cells #[.bool x, .bool u, .bool f] 23))) := Go.Joins.below_alloc1 _ _
    go_enter Tryd.func3, Tryd.ntmps3
    go_wp2_with fail
    refine (AW.out _ BU.out).mono ?_
    rintro e u9 ⟨rfl, hb⟩
    have B9 : Hid (Below w.heap.size w u9) := below_next BU.out hb
    clear hb
    go_wp2_with fail
    go_ret
    exact ⟨rfl, B9.out⟩
  have do5 : decide (20 < a2) = false := decide_eq_false o5
  have v1 : IntKind.u64.wrap a0 = a0 := by rw [IntKind.wrap_u64]; omega
  have v2 : IntKind.u64.wrap (a0 * 2097152) = a0 * 2097152 := by rw [IntKind.wrap_u64]; omega
  have v3 : bits .or .u64 (a0 * 2097152) 135 = a0 * 2097152 + 135 := or_high a0 21 135 (by omega) (by omega) (by omega) (by omega)
  have v4 : IntKind.u64.wrap a1 = a1 := by rw [IntKind.wrap_u64]; omega
  have v5 : IntKind.u64.wrap (a1 * 4096) = a1 * 4096 := by rw [IntKind.wrap_u64]; omega
  have v6 : bits .or .u64 6291456 (a1 * 4096) = 6291456 + a1 * 4096 := by
    have h := or_high 3 21 (a1 * 4096).toNat (by omega) (by omega) (by omega) (by omega)
    rw [show (((a1 * 4096).toNat : Nat) : Int) = a1 * 4096 by omega] at h
    exact h
  have v7 : bits .or .u64 (6291456 + a1 * 4096) 5 = 6291461 + a1 * 4096 := by
    have h := or_high (1536 + a1) 12 5 (by omega) (by omega) (by omega) (by omega)
    rw [show (1536 + a1) * 2 ^ 12 = 6291456 + a1 * 4096 by omega] at h
    rw [show (5 : Int) = ((5 : Nat) : Int) from rfl, h]; omega
  have v8 : wrap64 (a0 * 512) = a0 * 512 := by simp only [wrap64]; omega
  have v9 : wrap64 (a0 * 512 + a1) = a0 * 512 + a1 := by simp only [wrap64]; omega
  have v8' : IntKind.i64.wrap (a0 * 512) = a0 * 512 := by rw [IntKind.wrap_i64]; omega
  have v9' : IntKind.i64.wrap (a0 * 512 + a1) = a0 * 512 + a1 := by rw [IntKind.wrap_i64]; omega
  by_cases b12 : 12 ≤ a2
  rotate_left
  · have db : decide (12 ≤ a2) = false := decide_eq_false b12
    have XB : 0 ≤ a0 * 2097152 + 135 ∧ a0 * 2097152 + 135 < 18446744073709551616 := by omega
    have BW : Hid (Below w.heap.size w ((w.alloc (.cells #[.bool x, .bool u, .bool f] 23)).alloc (.cells #[.int .i64 0, .int .i64 0, .int .u64 4103, .int .i64 1, .int .i64 0, .int .u64 8199, .int .i64 2, .int .i64 3, .int .u64 (a0 * 2097152 + 135)] 35))) := Go.Joins.below_alloc2 _ _ _
    have AB : Hid (Blk ((w.alloc (.cells #[.bool x, .bool u, .bool f] 23)).alloc (.cells #[.int .i64 0, .int .i64 0, .int .u64 4103, .int .i64 1, .int .i64 0, .int .u64 8199, .int .i64 2, .int .i64 3, .int .u64 (a0 * 2097152 + 135)] 35)) w.heap.size [.bool x, .bool u, .bool f] 23) := (Blk.made w _ _).below (Go.Joins.below_alloc1 _ _)
    have T1 : Hid (Tab ((w.alloc (.cells #[.bool x, .bool u, .bool f] 23)).alloc (.cells #[.int .i64 0, .int .i64 0, .int .u64 4103, .int .i64 1, .int .i64 0, .int .u64 8199, .int .i64 2, .int .i64 3, .int .u64 (a0 * 2097152 + 135)] 35))) := ht.keep (Go.Joins.below_alloc2 _ _ _)
    obtain ⟨M0, hM0⟩ : ∃ M0, M0 = layM (AL (a0 * 2097152 + 135)) 3 := ⟨_, rfl⟩
    have LY : Hid (Calls Tryd.prog 6 #[.slice (some ⟨w.heap.size + 1, 0, none⟩) 3 3] ((w.alloc (.cells #[.bool x, .bool u, .bool f] 23)).alloc (.cells #[.int .i64 0, .int .i64 0, .int .u64 4103, .int .i64 1, .int .i64 0, .int .u64 8199, .int .i64 2, .int .i64 3, .int .u64 (a0 * 2097152 + 135)] 35)) fun e w' => ∃ (rb g mb xb : Nat) (K : Nat → Prop) (S : List Nat), e = .returned (.tuple #[.pointer (some ⟨rb, 0, none⟩), .agg #[.int .i64 8, .slice (some ⟨g, 0, none⟩) 1 1, .map (some mb)]]) ∧ Play ((w.alloc (.cells #[.bool x, .bool u, .bool f] 23)).alloc (.cells #[.int .i64 0, .int .i64 0, .int .u64 4103, .int .i64 1, .int .i64 0, .int .u64 8199, .int .i64 2, .int .i64 3, .int .u64 (a0 * 2097152 + 135)] 35)) w' K S rb 8 [(7, 8)] g 1 mb xb M0 M0 80 320) := by
      rw [hM0]; exact lay_ex _ 3 3 (AL (a0 * 2097152 + 135)) (by have := MX.out; omega) ((w.alloc (.cells #[.bool x, .bool u, .bool f] 23)).alloc (.cells #[.int .i64 0, .int .i64 0, .int .u64 4103, .int .i64 1, .int .i64 0, .int .u64 8199, .int .i64 2, .int .i64 3, .int .u64 (a0 * 2097152 + 135)] 35)) (putsL w _ (by simp [Lit.wf, IntKind.min, IntKind.max, IntKind.signed, IntKind.bits]; omega) x u f)
    have LG := large_ok a0 a1 (by omega) (by omega) (by omega) (by omega) x u f
    rw [← hM0] at LG
    clear hM0 XB
    go_enter Tryd.func3, Tryd.ntmps3
    go_wp2_with fail
    refine LY.out.mono ?_
    rintro e u1 ⟨rb, g, mb, xb, K, S, rfl, h1⟩
    obtain ⟨K1, k1a, k1b, h9⟩ := h1.box1 (.cells #[.int .i64 8, .slice (some ⟨g, 0, none⟩) 1 1, .map (some mb)] 31)
    have P1 : Hid (Play ((w.alloc (.cells #[.bool x, .bool u, .bool f] 23)).alloc (.cells #[.int .i64 0, .int .i64 0, .int .u64 4103, .int .i64 1, .int .i64 0, .int .u64 8199, .int .i64 2, .int .i64 3, .int .u64 (a0 * 2097152 + 135)] 35)) (u1.alloc (.cells #[.int .i64 8, .slice (some ⟨g, 0, none⟩) 1 1, .map (some mb)] 31)) K1 S rb 8 [(7, 8)] g 1 mb xb M0 M0 80 320) := h9
    have A1 := Blk.below AB.out h1.bel
    have lw : w.heap.size < u1.heap.size := blk_lt A1
    have q0 : u1.cell? ⟨w.heap.size, 0, none⟩ = some (.bool x) := Blk.cell A1 0
    have q1 : u1.cell? ⟨w.heap.size, 1, none⟩ = some (.bool u) := Blk.cell A1 1
    have q2 : u1.cell? ⟨w.heap.size, 2, none⟩ = some (.bool f) := Blk.cell A1 2
    clear LY h1 h9 k1a k1b A1
    obtain ⟨r1, hr1⟩ : ∃ r1, r1 = walkW Has8 M0 0 (6291461 + a1 * 4096) x u f := ⟨_, rfl⟩
    rw [← hr1] at LG
    have C1 : Calls Tryd.prog 7 #[.pointer (some ⟨rb, 0, none⟩), .int .i64 0, .int .u64 (6291461 + a1 * 4096), .agg #[.bool x, .bool u, .bool f]] (u1.alloc (.cells #[.int .i64 8, .slice (some ⟨g, 0, none⟩) 1 1, .map (some mb)] 31)) fun e w' => e = .returned r1.val ∧ Play ((w.alloc (.cells #[.bool x, .bool u, .bool f] 23)).alloc (.cells #[.int .i64 0, .int .i64 0, .int .u64 4103, .int .i64 1, .int .i64 0, .int .u64 8199, .int .i64 2, .int .i64 3, .int .u64 (a0 * 2097152 + 135)] 35)) w' K1 S rb 8 [(7, 8)] g 1 mb xb r1.M M0 88 320 ∧ Kept K1 (u1.alloc (.cells #[.int .i64 8, .slice (some ⟨g, 0, none⟩) 1 1, .map (some mb)] 31)) w' := by
      rw [hr1]; exact walk_play P1.out T1.out (by have := MX.out; omega) 0 (6291461 + a1 * 4096) (by omega) (by omega) x u f
    clear hr1
    obtain ⟨er1, fa1, fc1, fr1, pw1, pu1, px1, g1, l1, d1, M1⟩ := r1
    simp only at LG
    have C1 : Hid (Calls Tryd.prog 7 #[.pointer (some ⟨rb, 0, none⟩), .int .i64 0, .int .u64 (6291461 + a1 * 4096), .agg #[.bool x, .bool u, .bool f]] (u1.alloc (.cells #[.int .i64 8, .slice (some ⟨g, 0, none⟩) 1 1, .map (some mb)] 31)) fun e w' => e = .returned (.tuple #[.agg #[.int .i64 fr1, .bool pw1, .bool pu1, .bool px1, .bool g1, .bool l1, .bool d1], .agg #[.int .u64 fa1, .int .i64 fc1], .int .i64 er1]) ∧ Play ((w.alloc (.cells #[.bool x, .bool u, .bool f] 23)).alloc (.cells #[.int .i64 0, .int .i64 0, .int .u64 4103, .int .i64 1, .int .i64 0, .int .u64 8199, .int .i64 2, .int .i64 3, .int .u64 (a0 * 2097152 + 135)] 35)) w' K1 S rb 8 [(7, 8)] g 1 mb xb M1 M0 88 320 ∧ Kept K1 (u1.alloc (.cells #[.int .i64 8, .slice (some ⟨g, 0, none⟩) 1 1, .map (some mb)] 31)) w') := C1
    obtain ⟨g1', g2', g3', g4'⟩ := LG
    subst g1' g2' g3' g4'
    have dd : (d1 == d1) = true := by simp
    have ff : (a0 * 512 + a1 == a0 * 512 + a1) = true := by simp
    clear P1
    go_wp2_with fail
    refine C1.out.mono ?_
    rintro e u2 ⟨rfl, h2, k2⟩
    have BU : Hid (Below w.heap.size w ((u2.alloc (.cells #[.int .i64 (a0 * 512 + a1), .bool pw1, .bool pu1, .bool px1, .bool g1, .bool true, .bool d1] 40)).alloc (.cells #[.int .u64 fa1, .int .i64 fc1] 42))) := below_new (below_new (below_next BW.out h2.bel) _) _
    have F1 : Hid _ := made_2 u2 [.int .i64 (a0 * 512 + a1), .bool pw1, .bool pu1, .bool px1, .bool g1, .bool true, .bool d1] [.int .u64 fa1, .int .i64 fc1] 40 42
    have AB2 : Hid (Blk ((u2.alloc (.cells #[.int .i64 (a0 * 512 + a1), .bool pw1, .bool pu1, .bool px1, .bool g1, .bool true, .bool d1] 40)).alloc (.cells #[.int .u64 fa1, .int .i64 fc1] 42)) w.heap.size [.bool d1, .bool u, .bool f] 23) := Blk.below (Blk.below AB.out h2.bel) (Go.Joins.below_alloc2 _ _ _)
    clear C1 h2 k2 q0 q1 q2 AB
    go_wp2_with fail
    refine (AW.out _ BU.out).mono ?_
    rintro e u4 ⟨rfl, hb⟩
    have B4 : Hid (Below w.heap.size w u4) := below_next BU.out hb
    have Z1 := Blk.below F1.out.1 hb
    have Z2 := Blk.below F1.out.2 hb
    have Z3 := Blk.below AB2.out hb
    have z0 : u4.cell? ⟨u2.heap.size, 0, none⟩ = some (.int .i64 (a0 * 512 + a1)) := Blk.cell Z1 0
    have z1 : u4.cell? ⟨u2.heap.size, 1, none⟩ = some (.bool pw1) := Blk.cell Z1 1
    have z2 : u4.cell? ⟨u2.heap.size, 2, none⟩ = some (.bool pu1) := Blk.cell Z1 2
    have z3 : u4.cell? ⟨u2.heap.size, 3, none⟩ = some (.bool px1) := Blk.cell Z1 3
    have z4 : u4.cell? ⟨u2.heap.size, 4, none⟩ = some (.bool g1) := Blk.cell Z1 4
    have z5 : u4.cell? ⟨u2.heap.size, 5, none⟩ = some (.bool true) := Blk.cell Z1 5
    have z6 : u4.cell? ⟨u2.heap.size, 6, none⟩ = some (.bool d1) := Blk.cell Z1 6
    have y0 : u4.cell? ⟨w.heap.size, 0, none⟩ = some (.bool d1) := Blk.cell Z3 0
    clear hb F1 BU Z1 Z2 Z3 AB2
    go_wp2_with fail
    go_ret
    exact ⟨rfl, B4.out⟩
  have db : decide (12 ≤ a2) = true := decide_eq_true b12
  rcases (show a2 = 12 ∨ a2 = 13 ∨ a2 = 14 ∨ a2 = 15 ∨ a2 = 16 ∨ a2 = 17 ∨ a2 = 18 ∨ a2 = 19 ∨ a2 = 20 by omega) with rfl | rfl | rfl | rfl | rfl | rfl | rfl | rfl | rfl
  · skip
    have vb : bits .or .u64 (a0 * 2097152 + 135) 4096 = a0 * 2097152 + 4231 := or_bits a0 4096 (by omega) (by omega) (by omega) 4231 (by omega) (by decide)
    have XB : 0 ≤ a0 * 2097152 + 4231 ∧ a0 * 2097152 + 4231 < 18446744073709551616 := by omega
    have BW : Hid (Below w.heap.size w ((w.alloc (.cells #[.bool x, .bool u, .bool f] 23)).alloc (.cells #[.int .i64 0, .int .i64 0, .int .u64 4103, .int .i64 1, .int .i64 0, .int .u64 8199, .int .i64 2, .int .i64 3, .int .u64 (a0 * 2097152 + 4231)] 35))) := Go.Joins.below_alloc2 _ _ _
    have AB : Hid (Blk ((w.alloc (.cells #[.bool x, .bool u, .bool f] 23)).alloc (.cells #[.int .i64 0, .int .i64 0, .int .u64 4103, .int .i64 1, .int .i64 0, .int .u64 8199, .int .i64 2, .int .i64 3, .int .u64 (a0 * 2097152 + 4231)] 35)) w.heap.size [.bool x, .bool u, .bool f] 23) := (Blk.made w _ _).below (Go.Joins.below_alloc1 _ _)
    have T1 : Hid (Tab ((w.alloc (.cells #[.bool x, .bool u, .bool f] 23)).alloc (.cells #[.int .i64 0, .int .i64 0, .int .u64 4103, .int .i64 1, .int .i64 0, .int .u64 8199, .int .i64 2, .int .i64 3, .int .u64 (a0 * 2097152 + 4231)] 35))) := ht.keep (Go.Joins.below_alloc2 _ _ _)
    obtain ⟨M0, hM0⟩ : ∃ M0, M0 = layM (AL (a0 * 2097152 + 4231)) 3 := ⟨_, rfl⟩
    have LY : Hid (Calls Tryd.prog 6 #[.slice (some ⟨w.heap.size + 1, 0, none⟩) 3 3] ((w.alloc (.cells #[.bool x, .bool u, .bool f] 23)).alloc (.cells #[.int .i64 0, .int .i64 0, .int .u64 4103, .int .i64 1, .int .i64 0, .int .u64 8199, .int .i64 2, .int .i64 3, .int .u64 (a0 * 2097152 + 4231)] 35)) fun e w' => ∃ (rb g mb xb : Nat) (K : Nat → Prop) (S : List Nat), e = .returned (.tuple #[.pointer (some ⟨rb, 0, none⟩), .agg #[.int .i64 8, .slice (some ⟨g, 0, none⟩) 1 1, .map (some mb)]]) ∧ Play ((w.alloc (.cells #[.bool x, .bool u, .bool f] 23)).alloc (.cells #[.int .i64 0, .int .i64 0, .int .u64 4103, .int .i64 1, .int .i64 0, .int .u64 8199, .int .i64 2, .int .i64 3, .int .u64 (a0 * 2097152 + 4231)] 35)) w' K S rb 8 [(7, 8)] g 1 mb xb M0 M0 80 320) := by
      rw [hM0]; exact lay_ex _ 3 3 (AL (a0 * 2097152 + 4231)) (by have := MX.out; omega) ((w.alloc (.cells #[.bool x, .bool u, .bool f] 23)).alloc (.cells #[.int .i64 0, .int .i64 0, .int .u64 4103, .int .i64 1, .int .i64 0, .int .u64 8199, .int .i64 2, .int .i64 3, .int .u64 (a0 * 2097152 + 4231)] 35)) (putsL w _ (by simp [Lit.wf, IntKind.min, IntKind.max, IntKind.signed, IntKind.bits]; omega) x u f)
    have LG := large_bad a0 a1 4231 (by omega) (by omega) (by omega) (by omega) (by omega) (by omega) (by omega) x u f
    rw [show (((4231 : Nat)) : Int) = 4231 from rfl, ← hM0] at LG
    clear hM0 XB
    go_enter Tryd.func3, Tryd.ntmps3
    go_wp2_with fail
    refine LY.out.mono ?_
    rintro e u1 ⟨rb, g, mb, xb, K, S, rfl, h1⟩
    obtain ⟨K1, k1a, k1b, h9⟩ := h1.box1 (.cells #[.int .i64 8, .slice (some ⟨g, 0, none⟩) 1 1, .map (some mb)] 31)
    have P1 : Hid (Play ((w.alloc (.cells #[.bool x, .bool u, .bool f] 23)).alloc (.cells #[.int .i64 0, .int .i64 0, .int .u64 4103, .int .i64 1, .int .i64 0, .int .u64 8199, .int .i64 2, .int .i64 3, .int .u64 (a0 * 2097152 + 4231)] 35)) (u1.alloc (.cells #[.int .i64 8, .slice (some ⟨g, 0, none⟩) 1 1, .map (some mb)] 31)) K1 S rb 8 [(7, 8)] g 1 mb xb M0 M0 80 320) := h9
    have A1 := Blk.below AB.out h1.bel
    have lw : w.heap.size < u1.heap.size := blk_lt A1
    have q0 : u1.cell? ⟨w.heap.size, 0, none⟩ = some (.bool x) := Blk.cell A1 0
    have q1 : u1.cell? ⟨w.heap.size, 1, none⟩ = some (.bool u) := Blk.cell A1 1
    have q2 : u1.cell? ⟨w.heap.size, 2, none⟩ = some (.bool f) := Blk.cell A1 2
    clear LY h1 h9 k1a k1b A1
    obtain ⟨r1, hr1⟩ : ∃ r1, r1 = walkW Has8 M0 0 (6291461 + a1 * 4096) x u f := ⟨_, rfl⟩
    rw [← hr1] at LG
    have C1 : Calls Tryd.prog 7 #[.pointer (some ⟨rb, 0, none⟩), .int .i64 0, .int .u64 (6291461 + a1 * 4096), .agg #[.bool x, .bool u, .bool f]] (u1.alloc (.cells #[.int .i64 8, .slice (some ⟨g, 0, none⟩) 1 1, .map (some mb)] 31)) fun e w' => e = .returned r1.val ∧ Play ((w.alloc (.cells #[.bool x, .bool u, .bool f] 23)).alloc (.cells #[.int .i64 0, .int .i64 0, .int .u64 4103, .int .i64 1, .int .i64 0, .int .u64 8199, .int .i64 2, .int .i64 3, .int .u64 (a0 * 2097152 + 4231)] 35)) w' K1 S rb 8 [(7, 8)] g 1 mb xb r1.M M0 88 320 ∧ Kept K1 (u1.alloc (.cells #[.int .i64 8, .slice (some ⟨g, 0, none⟩) 1 1, .map (some mb)] 31)) w' := by
      rw [hr1]; exact walk_play P1.out T1.out (by have := MX.out; omega) 0 (6291461 + a1 * 4096) (by omega) (by omega) x u f
    clear hr1
    obtain ⟨er1, fa1, fc1, fr1, pw1, pu1, px1, g1, l1, d1, M1⟩ := r1
    simp only at LG
    have C1 : Hid (Calls Tryd.prog 7 #[.pointer (some ⟨rb, 0, none⟩), .int .i64 0, .int .u64 (6291461 + a1 * 4096), .agg #[.bool x, .bool u, .bool f]] (u1.alloc (.cells #[.int .i64 8, .slice (some ⟨g, 0, none⟩) 1 1, .map (some mb)] 31)) fun e w' => e = .returned (.tuple #[.agg #[.int .i64 fr1, .bool pw1, .bool pu1, .bool px1, .bool g1, .bool l1, .bool d1], .agg #[.int .u64 fa1, .int .i64 fc1], .int .i64 er1]) ∧ Play ((w.alloc (.cells #[.bool x, .bool u, .bool f] 23)).alloc (.cells #[.int .i64 0, .int .i64 0, .int .u64 4103, .int .i64 1, .int .i64 0, .int .u64 8199, .int .i64 2, .int .i64 3, .int .u64 (a0 * 2097152 + 4231)] 35)) w' K1 S rb 8 [(7, 8)] g 1 mb xb M1 M0 88 320 ∧ Kept K1 (u1.alloc (.cells #[.int .i64 8, .slice (some ⟨g, 0, none⟩) 1 1, .map (some mb)] 31)) w') := C1
    obtain ⟨g1', g2'⟩ := LG
    subst g1'
    clear P1
    go_wp2_with fail
    refine C1.out.mono ?_
    rintro e u2 ⟨rfl, h2, k2⟩
    have BU : Hid (Below w.heap.size w ((u2.alloc (.cells #[.int .i64 fr1, .bool pw1, .bool pu1, .bool px1, .bool g1, .bool l1, .bool d1] 40)).alloc (.cells #[.int .u64 fa1, .int .i64 fc1] 42))) := below_new (below_new (below_next BW.out h2.bel) _) _
    have F1 : Hid _ := made_2 u2 [.int .i64 fr1, .bool pw1, .bool pu1, .bool px1, .bool g1, .bool l1, .bool d1] [.int .u64 fa1, .int .i64 fc1] 40 42
    have AB2 : Hid (Blk ((u2.alloc (.cells #[.int .i64 fr1, .bool pw1, .bool pu1, .bool px1, .bool g1, .bool l1, .bool d1] 40)).alloc (.cells #[.int .u64 fa1, .int .i64 fc1] 42)) w.heap.size [.bool x, .bool u, .bool f] 23) := Blk.below (Blk.below AB.out h2.bel) (Go.Joins.below_alloc2 _ _ _)
    clear C1 h2 k2 q0 q1 q2 AB
    go_wp2_with fail
    refine (AW.out _ BU.out).mono ?_
    rintro e u4 ⟨rfl, hb⟩
    have B4 : Hid (Below w.heap.size w u4) := below_next BU.out hb
    have Z1 := Blk.below F1.out.1 hb
    have Z2 := Blk.below F1.out.2 hb
    have Z3 := Blk.below AB2.out hb
    have y1 : u4.cell? ⟨u2.heap.size + 1, 1, none⟩ = some (.int .i64 fc1) := Blk.cell Z2 1
    clear hb F1 BU Z1 Z2 Z3 AB2
    go_wp2_with fail
    go_ret
    exact ⟨rfl, B4.out⟩
  · skip
    have vb : bits .or .u64 (a0 * 2097152 + 135) 8192 = a0 * 2097152 + 8327 := or_bits a0 8192 (by omega) (by omega) (by omega) 8327 (by omega) (by decide)
    have XB : 0 ≤ a0 * 2097152 + 8327 ∧ a0 * 2097152 + 8327 < 18446744073709551616 := by omega
    have BW : Hid (Below w.heap.size w ((w.alloc (.cells #[.bool x, .bool u, .bool f] 23)).alloc (.cells #[.int .i64 0, .int .i64 0, .int .u64 4103, .int .i64 1, .int .i64 0, .int .u64 8199, .int .i64 2, .int .i64 3, .int .u64 (a0 * 2097152 + 8327)] 35))) := Go.Joins.below_alloc2 _ _ _
    have AB : Hid (Blk ((w.alloc (.cells #[.bool x, .bool u, .bool f] 23)).alloc (.cells #[.int .i64 0, .int .i64 0, .int .u64 4103, .int .i64 1, .int .i64 0, .int .u64 8199, .int .i64 2, .int .i64 3, .int .u64 (a0 * 2097152 + 8327)] 35)) w.heap.size [.bool x, .bool u, .bool f] 23) := (Blk.made w _ _).below (Go.Joins.below_alloc1 _ _)
    have T1 : Hid (Tab ((w.alloc (.cells #[.bool x, .bool u, .bool f] 23)).alloc (.cells #[.int .i64 0, .int .i64 0, .int .u64 4103, .int .i64 1, .int .i64 0, .int .u64 8199, .int .i64 2, .int .i64 3, .int .u64 (a0 * 2097152 + 8327)] 35))) := ht.keep (Go.Joins.below_alloc2 _ _ _)
    obtain ⟨M0, hM0⟩ : ∃ M0, M0 = layM (AL (a0 * 2097152 + 8327)) 3 := ⟨_, rfl⟩
    have LY : Hid (Calls Tryd.prog 6 #[.slice (some ⟨w.heap.size + 1, 0, none⟩) 3 3] ((w.alloc (.cells #[.bool x, .bool u, .bool f] 23)).alloc (.cells #[.int .i64 0, .int .i64 0, .int .u64 4103, .int .i64 1, .int .i64 0, .int .u64 8199, .int .i64 2, .int .i64 3, .int .u64 (a0 * 2097152 + 8327)] 35)) fun e w' => ∃ (rb g mb xb : Nat) (K : Nat → Prop) (S : List Nat), e = .returned (.tuple #[.pointer (some ⟨rb, 0, none⟩), .agg #[.int .i64 8, .slice (some ⟨g, 0, none⟩) 1 1, .map (some mb)]]) ∧ Play ((w.alloc (.cells #[.bool x, .bool u, .bool f] 23)).alloc (.cells #[.int .i64 0, .int .i64 0, .int .u64 4103, .int .i64 1, .int .i64 0, .int .u64 8199, .int .i64 2, .int .i64 3, .int .u64 (a0 * 2097152 + 8327)] 35)) w' K S rb 8 [(7, 8)] g 1 mb xb M0 M0 80 320) := by
      rw [hM0]; exact lay_ex _ 3 3 (AL (a0 * 2097152 + 8327)) (by have := MX.out; omega) ((w.alloc (.cells #[.bool x, .bool u, .bool f] 23)).alloc (.cells #[.int .i64 0, .int .i64 0, .int .u64 4103, .int .i64 1, .int .i64 0, .int .u64 8199, .int .i64 2, .int .i64 3, .int .u64 (a0 * 2097152 + 8327)] 35)) (putsL w _ (by simp [Lit.wf, IntKind.min, IntKind.max, IntKind.signed, IntKind.bits]; omega) x u f)
    have LG := large_bad a0 a1 8327 (by omega) (by omega) (by omega) (by omega) (by omega) (by omega) (by omega) x u f
    rw [show (((8327 : Nat)) : Int) = 8327 from rfl, ← hM0] at LG
    clear hM0 XB
    go_enter Tryd.func3, Tryd.ntmps3
    go_wp2_with fail
    refine LY.out.mono ?_
    rintro e u1 ⟨rb, g, mb, xb, K, S, rfl, h1⟩
    obtain ⟨K1, k1a, k1b, h9⟩ := h1.box1 (.cells #[.int .i64 8, .slice (some ⟨g, 0, none⟩) 1 1, .map (some mb)] 31)
    have P1 : Hid (Play ((w.alloc (.cells #[.bool x, .bool u, .bool f] 23)).alloc (.cells #[.int .i64 0, .int .i64 0, .int .u64 4103, .int .i64 1, .int .i64 0, .int .u64 8199, .int .i64 2, .int .i64 3, .int .u64 (a0 * 2097152 + 8327)] 35)) (u1.alloc (.cells #[.int .i64 8, .slice (some ⟨g, 0, none⟩) 1 1, .map (some mb)] 31)) K1 S rb 8 [(7, 8)] g 1 mb xb M0 M0 80 320) := h9
    have A1 := Blk.below AB.out h1.bel
    have lw : w.heap.size < u1.heap.size := blk_lt A1
    have q0 : u1.cell? ⟨w.heap.size, 0, none⟩ = some (.bool x) := Blk.cell A1 0
    have q1 : u1.cell? ⟨w.heap.size, 1, none⟩ = some (.bool u) := Blk.cell A1 1
    have q2 : u1.cell? ⟨w.heap.size, 2, none⟩ = some (.bool f) := Blk.cell A1 2
    clear LY h1 h9 k1a k1b A1
    obtain ⟨r1, hr1⟩ : ∃ r1, r1 = walkW Has8 M0 0 (6291461 + a1 * 4096) x u f := ⟨_, rfl⟩
    rw [← hr1] at LG
    have C1 : Calls Tryd.prog 7 #[.pointer (some ⟨rb, 0, none⟩), .int .i64 0, .int .u64 (6291461 + a1 * 4096), .agg #[.bool x, .bool u, .bool f]] (u1.alloc (.cells #[.int .i64 8, .slice (some ⟨g, 0, none⟩) 1 1, .map (some mb)] 31)) fun e w' => e = .returned r1.val ∧ Play ((w.alloc (.cells #[.bool x, .bool u, .bool f] 23)).alloc (.cells #[.int .i64 0, .int .i64 0, .int .u64 4103, .int .i64 1, .int .i64 0, .int .u64 8199, .int .i64 2, .int .i64 3, .int .u64 (a0 * 2097152 + 8327)] 35)) w' K1 S rb 8 [(7, 8)] g 1 mb xb r1.M M0 88 320 ∧ Kept K1 (u1.alloc (.cells #[.int .i64 8, .slice (some ⟨g, 0, none⟩) 1 1, .map (some mb)] 31)) w' := by
      rw [hr1]; exact walk_play P1.out T1.out (by have := MX.out; omega) 0 (6291461 + a1 * 4096) (by omega) (by omega) x u f
    clear hr1
    obtain ⟨er1, fa1, fc1, fr1, pw1, pu1, px1, g1, l1, d1, M1⟩ := r1
    simp only at LG
    have C1 : Hid (Calls Tryd.prog 7 #[.pointer (some ⟨rb, 0, none⟩), .int .i64 0, .int .u64 (6291461 + a1 * 4096), .agg #[.bool x, .bool u, .bool f]] (u1.alloc (.cells #[.int .i64 8, .slice (some ⟨g, 0, none⟩) 1 1, .map (some mb)] 31)) fun e w' => e = .returned (.tuple #[.agg #[.int .i64 fr1, .bool pw1, .bool pu1, .bool px1, .bool g1, .bool l1, .bool d1], .agg #[.int .u64 fa1, .int .i64 fc1], .int .i64 er1]) ∧ Play ((w.alloc (.cells #[.bool x, .bool u, .bool f] 23)).alloc (.cells #[.int .i64 0, .int .i64 0, .int .u64 4103, .int .i64 1, .int .i64 0, .int .u64 8199, .int .i64 2, .int .i64 3, .int .u64 (a0 * 2097152 + 8327)] 35)) w' K1 S rb 8 [(7, 8)] g 1 mb xb M1 M0 88 320 ∧ Kept K1 (u1.alloc (.cells #[.int .i64 8, .slice (some ⟨g, 0, none⟩) 1 1, .map (some mb)] 31)) w') := C1
    obtain ⟨g1', g2'⟩ := LG
    subst g1'
    clear P1
    go_wp2_with fail
    refine C1.out.mono ?_
    rintro e u2 ⟨rfl, h2, k2⟩
    have BU : Hid (Below w.heap.size w ((u2.alloc (.cells #[.int .i64 fr1, .bool pw1, .bool pu1, .bool px1, .bool g1, .bool l1, .bool d1] 40)).alloc (.cells #[.int .u64 fa1, .int .i64 fc1] 42))) := below_new (below_new (below_next BW.out h2.bel) _) _
    have F1 : Hid _ := made_2 u2 [.int .i64 fr1, .bool pw1, .bool pu1, .bool px1, .bool g1, .bool l1, .bool d1] [.int .u64 fa1, .int .i64 fc1] 40 42
    have AB2 : Hid (Blk ((u2.alloc (.cells #[.int .i64 fr1, .bool pw1, .bool pu1, .bool px1, .bool g1, .bool l1, .bool d1] 40)).alloc (.cells #[.int .u64 fa1, .int .i64 fc1] 42)) w.heap.size [.bool x, .bool u, .bool f] 23) := Blk.below (Blk.below AB.out h2.bel) (Go.Joins.below_alloc2 _ _ _)
    clear C1 h2 k2 q0 q1 q2 AB
    go_wp2_with fail
    refine (AW.out _ BU.out).mono ?_
    rintro e u4 ⟨rfl, hb⟩
    have B4 : Hid (Below w.heap.size w u4) := below_next BU.out hb
    have Z1 := Blk.below F1.out.1 hb
    have Z2 := Blk.below F1.out.2 hb
    have Z3 := Blk.below AB2.out hb
    have y1 : u4.cell? ⟨u2.heap.size + 1, 1, none⟩ = some (.int .i64 fc1) := Blk.cell Z2 1
    clear hb F1 BU Z1 Z2 Z3 AB2
    go_wp2_with fail
    go_ret
    exact ⟨rfl, B4.out⟩
  · skip
    have vb : bits .or .u64 (a0 * 2097152 + 135) 16384 = a0 * 2097152 + 16519 := or_bits a0 16384 (by omega) (by omega) (by omega) 16519 (by omega) (by decide)
    have XB : 0 ≤ a0 * 2097152 + 16519 ∧ a0 * 2097152 + 16519 < 18446744073709551616 := by omega
    have BW : Hid (Below w.heap.size w ((w.alloc (.cells #[.bool x, .bool u, .bool f] 23)).alloc (.cells #[.int .i64 0, .int .i64 0, .int .u64 4103, .int .i64 1, .int .i64 0, .int .u64 8199, .int .i64 2, .int .i64 3, .int .u64 (a0 * 2097152 + 16519)] 35))) := Go.Joins.below_alloc2 _ _ _
    have AB : Hid (Blk ((w.alloc (.cells #[.bool x, .bool u, .bool f] 23)).alloc (.cells #[.int .i64 0, .int .i64 0, .int .u64 4103, .int .i64 1, .int .i64 0, .int .u64 8199, .int .i64 2, .int .i64 3, .int .u64 (a0 * 2097152 + 16519)] 35)) w.heap.size [.bool x, .bool u, .bool f] 23) := (Blk.made w _ _).below (Go.Joins.below_alloc1 _ _)
    have T1 : Hid (Tab ((w.alloc (.cells #[.bool x, .bool u, .bool f] 23)).alloc (.cells #[.int .i64 0, .int .i64 0, .int .u64 4103, .int .i64 1, .int .i64 0, .int .u64 8199, .int .i64 2, .int .i64 3, .int .u64 (a0 * 2097152 + 16519)] 35))) := ht.keep (Go.Joins.below_alloc2 _ _ _)
    obtain ⟨M0, hM0⟩ : ∃ M0, M0 = layM (AL (a0 * 2097152 + 16519)) 3 := ⟨_, rfl⟩
    have LY : Hid (Calls Tryd.prog 6 #[.slice (some ⟨w.heap.size + 1, 0, none⟩) 3 3] ((w.alloc (.cells #[.bool x, .bool u, .bool f] 23)).alloc (.cells #[.int .i64 0, .int .i64 0, .int .u64 4103, .int .i64 1, .int .i64 0, .int .u64 8199, .int .i64 2, .int .i64 3, .int .u64 (a0 * 2097152 + 16519)] 35)) fun e w' => ∃ (rb g mb xb : Nat) (K : Nat → Prop) (S : List Nat), e = .returned (.tuple #[.pointer (some ⟨rb, 0, none⟩), .agg #[.int .i64 8, .slice (some ⟨g, 0, none⟩) 1 1, .map (some mb)]]) ∧ Play ((w.alloc (.cells #[.bool x, .bool u, .bool f] 23)).alloc (.cells #[.int .i64 0, .int .i64 0, .int .u64 4103, .int .i64 1, .int .i64 0, .int .u64 8199, .int .i64 2, .int .i64 3, .int .u64 (a0 * 2097152 + 16519)] 35)) w' K S rb 8 [(7, 8)] g 1 mb xb M0 M0 80 320) := by
      rw [hM0]; exact lay_ex _ 3 3 (AL (a0 * 2097152 + 16519)) (by have := MX.out; omega) ((w.alloc (.cells #[.bool x, .bool u, .bool f] 23)).alloc (.cells #[.int .i64 0, .int .i64 0, .int .u64 4103, .int .i64 1, .int .i64 0, .int .u64 8199, .int .i64 2, .int .i64 3, .int .u64 (a0 * 2097152 + 16519)] 35)) (putsL w _ (by simp [Lit.wf, IntKind.min, IntKind.max, IntKind.signed, IntKind.bits]; omega) x u f)
    have LG := large_bad a0 a1 16519 (by omega) (by omega) (by omega) (by omega) (by omega) (by omega) (by omega) x u f
    rw [show (((16519 : Nat)) : Int) = 16519 from rfl, ← hM0] at LG
    clear hM0 XB
    go_enter Tryd.func3, Tryd.ntmps3
    go_wp2_with fail
    refine LY.out.mono ?_
    rintro e u1 ⟨rb, g, mb, xb, K, S, rfl, h1⟩
    obtain ⟨K1, k1a, k1b, h9⟩ := h1.box1 (.cells #[.int .i64 8, .slice (some ⟨g, 0, none⟩) 1 1, .map (some mb)] 31)
    have P1 : Hid (Play ((w.alloc (.cells #[.bool x, .bool u, .bool f] 23)).alloc (.cells #[.int .i64 0, .int .i64 0, .int .u64 4103, .int .i64 1, .int .i64 0, .int .u64 8199, .int .i64 2, .int .i64 3, .int .u64 (a0 * 2097152 + 16519)] 35)) (u1.alloc (.cells #[.int .i64 8, .slice (some ⟨g, 0, none⟩) 1 1, .map (some mb)] 31)) K1 S rb 8 [(7, 8)] g 1 mb xb M0 M0 80 320) := h9
    have A1 := Blk.below AB.out h1.bel
    have lw : w.heap.size < u1.heap.size := blk_lt A1
    have q0 : u1.cell? ⟨w.heap.size, 0, none⟩ = some (.bool x) := Blk.cell A1 0
    have q1 : u1.cell? ⟨w.heap.size, 1, none⟩ = some (.bool u) := Blk.cell A1 1
    have q2 : u1.cell? ⟨w.heap.size, 2, none⟩ = some (.bool f) := Blk.cell A1 2
    clear LY h1 h9 k1a k1b A1
    obtain ⟨r1, hr1⟩ : ∃ r1, r1 = walkW Has8 M0 0 (6291461 + a1 * 4096) x u f := ⟨_, rfl⟩
    rw [← hr1] at LG
    have C1 : Calls Tryd.prog 7 #[.pointer (some ⟨rb, 0, none⟩), .int .i64 0, .int .u64 (6291461 + a1 * 4096), .agg #[.bool x, .bool u, .bool f]] (u1.alloc (.cells #[.int .i64 8, .slice (some ⟨g, 0, none⟩) 1 1, .map (some mb)] 31)) fun e w' => e = .returned r1.val ∧ Play ((w.alloc (.cells #[.bool x, .bool u, .bool f] 23)).alloc (.cells #[.int .i64 0, .int .i64 0, .int .u64 4103, .int .i64 1, .int .i64 0, .int .u64 8199, .int .i64 2, .int .i64 3, .int .u64 (a0 * 2097152 + 16519)] 35)) w' K1 S rb 8 [(7, 8)] g 1 mb xb r1.M M0 88 320 ∧ Kept K1 (u1.alloc (.cells #[.int .i64 8, .slice (some ⟨g, 0, none⟩) 1 1, .map (some mb)] 31)) w' := by
      rw [hr1]; exact walk_play P1.out T1.out (by have := MX.out; omega) 0 (6291461 + a1 * 4096) (by omega) (by omega) x u f
    clear hr1
    obtain ⟨er1, fa1, fc1, fr1, pw1, pu1, px1, g1, l1, d1, M1⟩ := r1
    simp only at LG
    have C1 : Hid (Calls Tryd.prog 7 #[.pointer (some ⟨rb, 0, none⟩), .int .i64 0, .int .u64 (6291461 + a1 * 4096), .agg #[.bool x, .bool u, .bool f]] (u1.alloc (.cells #[.int .i64 8, .slice (some ⟨g, 0, none⟩) 1 1, .map (some mb)] 31)) fun e w' => e = .returned (.tuple #[.agg #[.int .i64 fr1, .bool pw1, .bool pu1, .bool px1, .bool g1, .bool l1, .bool d1], .agg #[.int .u64 fa1, .int .i64 fc1], .int .i64 er1]) ∧ Play ((w.alloc (.cells #[.bool x, .bool u, .bool f] 23)).alloc (.cells #[.int .i64 0, .int .i64 0, .int .u64 4103, .int .i64 1, .int .i64 0, .int .u64 8199, .int .i64 2, .int .i64 3, .int .u64 (a0 * 2097152 + 16519)] 35)) w' K1 S rb 8 [(7, 8)] g 1 mb xb M1 M0 88 320 ∧ Kept K1 (u1.alloc (.cells #[.int .i64 8, .slice (some ⟨g, 0, none⟩) 1 1, .map (some mb)] 31)) w') := C1
    obtain ⟨g1', g2'⟩ := LG
    subst g1'
    clear P1
    go_wp2_with fail
    refine C1.out.mono ?_
    rintro e u2 ⟨rfl, h2, k2⟩
    have BU : Hid (Below w.heap.size w ((u2.alloc (.cells #[.int .i64 fr1, .bool pw1, .bool pu1, .bool px1, .bool g1, .bool l1, .bool d1] 40)).alloc (.cells #[.int .u64 fa1, .int .i64 fc1] 42))) := below_new (below_new (below_next BW.out h2.bel) _) _
    have F1 : Hid _ := made_2 u2 [.int .i64 fr1, .bool pw1, .bool pu1, .bool px1, .bool g1, .bool l1, .bool d1] [.int .u64 fa1, .int .i64 fc1] 40 42
    have AB2 : Hid (Blk ((u2.alloc (.cells #[.int .i64 fr1, .bool pw1, .bool pu1, .bool px1, .bool g1, .bool l1, .bool d1] 40)).alloc (.cells #[.int .u64 fa1, .int .i64 fc1] 42)) w.heap.size [.bool x, .bool u, .bool f] 23) := Blk.below (Blk.below AB.out h2.bel) (Go.Joins.below_alloc2 _ _ _)
    clear C1 h2 k2 q0 q1 q2 AB
    go_wp2_with fail
    refine (AW.out _ BU.out).mono ?_
    rintro e u4 ⟨rfl, hb⟩
    have B4 : Hid (Below w.heap.size w u4) := below_next BU.out hb
    have Z1 := Blk.below F1.out.1 hb
    have Z2 := Blk.below F1.out.2 hb
    have Z3 := Blk.below AB2.out hb
    have y1 : u4.cell? ⟨u2.heap.size + 1, 1, none⟩ = some (.int .i64 fc1) := Blk.cell Z2 1
    clear hb F1 BU Z1 Z2 Z3 AB2
    go_wp2_with fail
    go_ret
    exact ⟨rfl, B4.out⟩
  · skip
    have vb : bits .or .u64 (a0 * 2097152 + 135) 32768 = a0 * 2097152 + 32903 := or_bits a0 32768 (by omega) (by omega) (by omega) 32903 (by omega) (by decide)
    have XB : 0 ≤ a0 * 2097152 + 32903 ∧ a0 * 2097152 + 32903 < 18446744073709551616 := by omega
    have BW : Hid (Below w.heap.size w ((w.alloc (.cells #[.bool x, .bool u, .bool f] 23)).alloc (.cells #[.int .i64 0, .int .i64 0, .int .u64 4103, .int .i64 1, .int .i64 0, .int .u64 8199, .int .i64 2, .int .i64 3, .int .u64 (a0 * 2097152 + 32903)] 35))) := Go.Joins.below_alloc2 _ _ _
    have AB : Hid (Blk ((w.alloc (.cells #[.bool x, .bool u, .bool f] 23)).alloc (.cells #[.int .i64 0, .int .i64 0, .int .u64 4103, .int .i64 1, .int .i64 0, .int .u64 8199, .int .i64 2, .int .i64 3, .int .u64 (a0 * 2097152 + 32903)] 35)) w.heap.size [.bool x, .bool u, .bool f] 23) := (Blk.made w _ _).below (Go.Joins.below_alloc1 _ _)
    have T1 : Hid (Tab ((w.alloc (.cells #[.bool x, .bool u, .bool f] 23)).alloc (.cells #[.int .i64 0, .int .i64 0, .int .u64 4103, .int .i64 1, .int .i64 0, .int .u64 8199, .int .i64 2, .int .i64 3, .int .u64 (a0 * 2097152 + 32903)] 35))) := ht.keep (Go.Joins.below_alloc2 _ _ _)
    obtain ⟨M0, hM0⟩ : ∃ M0, M0 = layM (AL (a0 * 2097152 + 32903)) 3 := ⟨_, rfl⟩
    have LY : Hid (Calls Tryd.prog 6 #[.slice (some ⟨w.heap.size + 1, 0, none⟩) 3 3] ((w.alloc (.cells #[.bool x, .bool u, .bool f] 23)).alloc (.cells #[.int .i64 0, .int .i64 0, .int .u64 4103, .int .i64 1, .int .i64 0, .int .u64 8199, .int .i64 2, .int .i64 3, .int .u64 (a0 * 2097152 + 32903)] 35)) fun e w' => ∃ (rb g mb xb : Nat) (K : Nat → Prop) (S : List Nat), e = .returned (.tuple #[.pointer (some ⟨rb, 0, none⟩), .agg #[.int .i64 8, .slice (some ⟨g, 0, none⟩) 1 1, .map (some mb)]]) ∧ Play ((w.alloc (.cells #[.bool x, .bool u, .bool f] 23)).alloc (.cells #[.int .i64 0, .int .i64 0, .int .u64 4103, .int .i64 1, .int .i64 0, .int .u64 8199, .int .i64 2, .int .i64 3, .int .u64 (a0 * 2097152 + 32903)] 35)) w' K S rb 8 [(7, 8)] g 1 mb xb M0 M0 80 320) := by
      rw [hM0]; exact lay_ex _ 3 3 (AL (a0 * 2097152 + 32903)) (by have := MX.out; omega) ((w.alloc (.cells #[.bool x, .bool u, .bool f] 23)).alloc (.cells #[.int .i64 0, .int .i64 0, .int .u64 4103, .int .i64 1, .int .i64 0, .int .u64 8199, .int .i64 2, .int .i64 3, .int .u64 (a0 * 2097152 + 32903)] 35)) (putsL w _ (by simp [Lit.wf, IntKind.min, IntKind.max, IntKind.signed, IntKind.bits]; omega) x u f)
    have LG := large_bad a0 a1 32903 (by omega) (by omega) (by omega) (by omega) (by omega) (by omega) (by omega) x u f
    rw [show (((32903 : Nat)) : Int) = 32903 from rfl, ← hM0] at LG
    clear hM0 XB
    go_enter Tryd.func3, Tryd.ntmps3
    go_wp2_with fail
    refine LY.out.mono ?_
    rintro e u1 ⟨rb, g, mb, xb, K, S, rfl, h1⟩
    obtain ⟨K1, k1a, k1b, h9⟩ := h1.box1 (.cells #[.int .i64 8, .slice (some ⟨g, 0, none⟩) 1 1, .map (some mb)] 31)
    have P1 : Hid (Play ((w.alloc (.cells #[.bool x, .bool u, .bool f] 23)).alloc (.cells #[.int .i64 0, .int .i64 0, .int .u64 4103, .int .i64 1, .int .i64 0, .int .u64 8199, .int .i64 2, .int .i64 3, .int .u64 (a0 * 2097152 + 32903)] 35)) (u1.alloc (.cells #[.int .i64 8, .slice (some ⟨g, 0, none⟩) 1 1, .map (some mb)] 31)) K1 S rb 8 [(7, 8)] g 1 mb xb M0 M0 80 320) := h9
    have A1 := Blk.below AB.out h1.bel
    have lw : w.heap.size < u1.heap.size := blk_lt A1
    have q0 : u1.cell? ⟨w.heap.size, 0, none⟩ = some (.bool x) := Blk.cell A1 0
    have q1 : u1.cell? ⟨w.heap.size, 1, none⟩ = some (.bool u) := Blk.cell A1 1
    have q2 : u1.cell? ⟨w.heap.size, 2, none⟩ = some (.bool f) := Blk.cell A1 2
    clear LY h1 h9 k1a k1b A1
    obtain ⟨r1, hr1⟩ : ∃ r1, r1 = walkW Has8 M0 0 (6291461 + a1 * 4096) x u f := ⟨_, rfl⟩
    rw [← hr1] at LG
    have C1 : Calls Tryd.prog 7 #[.pointer (some ⟨rb, 0, none⟩), .int .i64 0, .int .u64 (6291461 + a1 * 4096), .agg #[.bool x, .bool u, .bool f]] (u1.alloc (.cells #[.int .i64 8, .slice (some ⟨g, 0, none⟩) 1 1, .map (some mb)] 31)) fun e w' => e = .returned r1.val ∧ Play ((w.alloc (.cells #[.bool x, .bool u, .bool f] 23)).alloc (.cells #[.int .i64 0, .int .i64 0, .int .u64 4103, .int .i64 1, .int .i64 0, .int .u64 8199, .int .i64 2, .int .i64 3, .int .u64 (a0 * 2097152 + 32903)] 35)) w' K1 S rb 8 [(7, 8)] g 1 mb xb r1.M M0 88 320 ∧ Kept K1 (u1.alloc (.cells #[.int .i64 8, .slice (some ⟨g, 0, none⟩) 1 1, .map (some mb)] 31)) w' := by
      rw [hr1]; exact walk_play P1.out T1.out (by have := MX.out; omega) 0 (6291461 + a1 * 4096) (by omega) (by omega) x u f
    clear hr1
    obtain ⟨er1, fa1, fc1, fr1, pw1, pu1, px1, g1, l1, d1, M1⟩ := r1
    simp only at LG
    have C1 : Hid (Calls Tryd.prog 7 #[.pointer (some ⟨rb, 0, none⟩), .int .i64 0, .int .u64 (6291461 + a1 * 4096), .agg #[.bool x, .bool u, .bool f]] (u1.alloc (.cells #[.int .i64 8, .slice (some ⟨g, 0, none⟩) 1 1, .map (some mb)] 31)) fun e w' => e = .returned (.tuple #[.agg #[.int .i64 fr1, .bool pw1, .bool pu1, .bool px1, .bool g1, .bool l1, .bool d1], .agg #[.int .u64 fa1, .int .i64 fc1], .int .i64 er1]) ∧ Play ((w.alloc (.cells #[.bool x, .bool u, .bool f] 23)).alloc (.cells #[.int .i64 0, .int .i64 0, .int .u64 4103, .int .i64 1, .int .i64 0, .int .u64 8199, .int .i64 2, .int .i64 3, .int .u64 (a0 * 2097152 + 32903)] 35)) w' K1 S rb 8 [(7, 8)] g 1 mb xb M1 M0 88 320 ∧ Kept K1 (u1.alloc (.cells #[.int .i64 8, .slice (some ⟨g, 0, none⟩) 1 1, .map (some mb)] 31)) w') := C1
    obtain ⟨g1', g2'⟩ := LG
    subst g1'
    clear P1
    go_wp2_with fail
    refine C1.out.mono ?_
    rintro e u2 ⟨rfl, h2, k2⟩
    have BU : Hid (Below w.heap.size w ((u2.alloc (.cells #[.int .i64 fr1, .bool pw1, .bool pu1, .bool px1, .bool g1, .bool l1, .bool d1] 40)).alloc (.cells #[.int .u64 fa1, .int .i64 fc1] 42))) := below_new (below_new (below_next BW.out h2.bel) _) _
    have F1 : Hid _ := made_2 u2 [.int .i64 fr1, .bool pw1, .bool pu1, .bool px1, .bool g1, .bool l1, .bool d1] [.int .u64 fa1, .int .i64 fc1] 40 42
    have AB2 : Hid (Blk ((u2.alloc (.cells #[.int .i64 fr1, .bool pw1, .bool pu1, .bool px1, .bool g1, .bool l1, .bool d1] 40)).alloc (.cells #[.int .u64 fa1, .int .i64 fc1] 42)) w.heap.size [.bool x, .bool u, .bool f] 23) := Blk.below (Blk.below AB.out h2.bel) (Go.Joins.below_alloc2 _ _ _)
    clear C1 h2 k2 q0 q1 q2 AB
    go_wp2_with fail
    refine (AW.out _ BU.out).mono ?_
    rintro e u4 ⟨rfl, hb⟩
    have B4 : Hid (Below w.heap.size w u4) := below_next BU.out hb
    have Z1 := Blk.below F1.out.1 hb
    have Z2 := Blk.below F1.out.2 hb
    have Z3 := Blk.below AB2.out hb
    have y1 : u4.cell? ⟨u2.heap.size + 1, 1, none⟩ = some (.int .i64 fc1) := Blk.cell Z2 1
    clear hb F1 BU Z1 Z2 Z3 AB2
    go_wp2_with fail
    go_ret
    exact ⟨rfl, B4.out⟩
  · skip
    have vb : bits .or .u64 (a0 * 2097152 + 135) 65536 = a0 * 2097152 + 65671 := or_bits a0 65536 (by omega) (by omega) (by omega) 65671 (by omega) (by decide)
    have XB : 0 ≤ a0 * 2097152 + 65671 ∧ a0 * 2097152 + 65671 < 18446744073709551616 := by omega
    have BW : Hid (Below w.heap.size w ((w.alloc (.cells #[.bool x, .bool u, .bool f] 23)).alloc (.cells #[.int .i64 0, .int .i64 0, .int .u64 4103, .int .i64 1, .int .i64 0, .int .u64 8199, .int .i64 2, .int .i64 3, .int .u64 (a0 * 2097152 + 65671)] 35))) := Go.Joins.below_alloc2 _ _ _
    have AB : Hid (Blk ((w.alloc (.cells #[.bool x, .bool u, .bool f] 23)).alloc (.cells #[.int .i64 0, .int .i64 0, .int .u64 4103, .int .i64 1, .int .i64 0, .int .u64 8199, .int .i64 2, .int .i64 3, .int .u64 (a0 * 2097152 + 65671)] 35)) w.heap.size [.bool x, .bool u, .bool f] 23) := (Blk.made w _ _).below (Go.Joins.below_alloc1 _ _)
    have T1 : Hid (Tab ((w.alloc (.cells #[.bool x, .bool u, .bool f] 23)).alloc (.cells #[.int .i64 0, .int .i64 0, .int .u64 4103, .int .i64 1, .int .i64 0, .int .u64 8199, .int .i64 2, .int .i64 3, .int .u64 (a0 * 2097152 + 65671)] 35))) := ht.keep (Go.Joins.below_alloc2 _ _ _)
    obtain ⟨M0, hM0⟩ : ∃ M0, M0 = layM (AL (a0 * 2097152 + 65671)) 3 := ⟨_, rfl⟩
    have LY : Hid (Calls Tryd.prog 6 #[.slice (some ⟨w.heap.size + 1, 0, none⟩) 3 3] ((w.alloc (.cells #[.bool x, .bool u, .bool f] 23)).alloc (.cells #[.int .i64 0, .int .i64 0, .int .u64 4103, .int .i64 1, .int .i64 0, .int .u64 8199, .int .i64 2, .int .i64 3, .int .u64 (a0 * 2097152 + 65671)] 35)) fun e w' => ∃ (rb g mb xb : Nat) (K : Nat → Prop) (S : List Nat), e = .returned (.tuple #[.pointer (some ⟨rb, 0, none⟩), .agg #[.int .i64 8, .slice (some ⟨g, 0, none⟩) 1 1, .map (some mb)]]) ∧ Play ((w.alloc (.cells #[.bool x, .bool u, .bool f] 23)).alloc (.cells #[.int .i64 0, .int .i64 0, .int .u64 4103, .int .i64 1, .int .i64 0, .int .u64 8199, .int .i64 2, .int .i64 3, .int .u64 (a0 * 2097152 + 65671)] 35)) w' K S rb 8 [(7, 8)] g 1 mb xb M0 M0 80 320) := by
      rw [hM0]; exact lay_ex _ 3 3 (AL (a0 * 2097152 + 65671)) (by have := MX.out; omega) ((w.alloc (.cells #[.bool x, .bool u, .bool f] 23)).alloc (.cells #[.int .i64 0, .int .i64 0, .int .u64 4103, .int .i64 1, .int .i64 0, .int .u64 8199, .int .i64 2, .int .i64 3, .int .u64 (a0 * 2097152 + 65671)] 35)) (putsL w _ (by simp [Lit.wf, IntKind.min, IntKind.max, IntKind.signed, IntKind.bits]; omega) x u f)
    have LG := large_bad a0 a1 65671 (by omega) (by omega) (by omega) (by omega) (by omega) (by omega) (by omega) x u f
    rw [show (((65671 : Nat)) : Int) = 65671 from rfl, ← hM0] at LG
    clear hM0 XB
    go_enter Tryd.func3, Tryd.ntmps3
    go_wp2_with fail
    refine LY.out.mono ?_
    rintro e u1 ⟨rb, g, mb, xb, K, S, rfl, h1⟩
    obtain ⟨K1, k1a, k1b, h9⟩ := h1.box1 (.cells #[.int .i64 8, .slice (some ⟨g, 0, none⟩) 1 1, .map (some mb)] 31)
    have P1 : Hid (Play ((w.alloc (.cells #[.bool x, .bool u, .bool f] 23)).alloc (.cells #[.int .i64 0, .int .i64 0, .int .u64 4103, .int .i64 1, .int .i64 0, .int .u64 8199, .int .i64 2, .int .i64 3, .int .u64 (a0 * 2097152 + 65671)] 35)) (u1.alloc (.cells #[.int .i64 8, .slice (some ⟨g, 0, none⟩) 1 1, .map (some mb)] 31)) K1 S rb 8 [(7, 8)] g 1 mb xb M0 M0 80 320) := h9
    have A1 := Blk.below AB.out h1.bel
    have lw : w.heap.size < u1.heap.size := blk_lt A1
    have q0 : u1.cell? ⟨w.heap.size, 0, none⟩ = some (.bool x) := Blk.cell A1 0
    have q1 : u1.cell? ⟨w.heap.size, 1, none⟩ = some (.bool u) := Blk.cell A1 1
    have q2 : u1.cell? ⟨w.heap.size, 2, none⟩ = some (.bool f) := Blk.cell A1 2
    clear LY h1 h9 k1a k1b A1
    obtain ⟨r1, hr1⟩ : ∃ r1, r1 = walkW Has8 M0 0 (6291461 + a1 * 4096) x u f := ⟨_, rfl⟩
    rw [← hr1] at LG
    have C1 : Calls Tryd.prog 7 #[.pointer (some ⟨rb, 0, none⟩), .int .i64 0, .int .u64 (6291461 + a1 * 4096), .agg #[.bool x, .bool u, .bool f]] (u1.alloc (.cells #[.int .i64 8, .slice (some ⟨g, 0, none⟩) 1 1, .map (some mb)] 31)) fun e w' => e = .returned r1.val ∧ Play ((w.alloc (.cells #[.bool x, .bool u, .bool f] 23)).alloc (.cells #[.int .i64 0, .int .i64 0, .int .u64 4103, .int .i64 1, .int .i64 0, .int .u64 8199, .int .i64 2, .int .i64 3, .int .u64 (a0 * 2097152 + 65671)] 35)) w' K1 S rb 8 [(7, 8)] g 1 mb xb r1.M M0 88 320 ∧ Kept K1 (u1.alloc (.cells #[.int .i64 8, .slice (some ⟨g, 0, none⟩) 1 1, .map (some mb)] 31)) w' := by
      rw [hr1]; exact walk_play P1.out T1.out (by have := MX.out; omega) 0 (6291461 + a1 * 4096) (by omega) (by omega) x u f
    clear hr1
    obtain ⟨er1, fa1, fc1, fr1, pw1, pu1, px1, g1, l1, d1, M1⟩ := r1
    simp only at LG
    have C1 : Hid (Calls Tryd.prog 7 #[.pointer (some ⟨rb, 0, none⟩), .int .i64 0, .int .u64 (6291461 + a1 * 4096), .agg #[.bool x, .bool u, .bool f]] (u1.alloc (.cells #[.int .i64 8, .slice (some ⟨g, 0, none⟩) 1 1, .map (some mb)] 31)) fun e w' => e = .returned (.tuple #[.agg #[.int .i64 fr1, .bool pw1, .bool pu1, .bool px1, .bool g1, .bool l1, .bool d1], .agg #[.int .u64 fa1, .int .i64 fc1], .int .i64 er1]) ∧ Play ((w.alloc (.cells #[.bool x, .bool u, .bool f] 23)).alloc (.cells #[.int .i64 0, .int .i64 0, .int .u64 4103, .int .i64 1, .int .i64 0, .int .u64 8199, .int .i64 2, .int .i64 3, .int .u64 (a0 * 2097152 + 65671)] 35)) w' K1 S rb 8 [(7, 8)] g 1 mb xb M1 M0 88 320 ∧ Kept K1 (u1.alloc (.cells #[.int .i64 8, .slice (some ⟨g, 0, none⟩) 1 1, .map (some mb)] 31)) w') := C1
    obtain ⟨g1', g2'⟩ := LG
    subst g1'
    clear P1
    go_wp2_with fail
    refine C1.out.mono ?_
    rintro e u2 ⟨rfl, h2, k2⟩
    have BU : Hid (Below w.heap.size w ((u2.alloc (.cells #[.int .i64 fr1, .bool pw1, .bool pu1, .bool px1, .bool g1, .bool l1, .bool d1] 40)).alloc (.cells #[.int .u64 fa1, .int .i64 fc1] 42))) := below_new (below_new (below_next BW.out h2.bel) _) _
    have F1 : Hid _ := made_2 u2 [.int .i64 fr1, .bool pw1, .bool pu1, .bool px1, .bool g1, .bool l1, .bool d1] [.int .u64 fa1, .int .i64 fc1] 40 42
    have AB2 : Hid (Blk ((u2.alloc (.cells #[.int .i64 fr1, .bool pw1, .bool pu1, .bool px1, .bool g1, .bool l1, .bool d1] 40)).alloc (.cells #[.int .u64 fa1, .int .i64 fc1] 42)) w.heap.size [.bool x, .bool u, .bool f] 23) := Blk.below (Blk.below AB.out h2.bel) (Go.Joins.below_alloc2 _ _ _)
    clear C1 h2 k2 q0 q1 q2 AB
    go_wp2_with fail
    refine (AW.out _ BU.out).mono ?_
    rintro e u4 ⟨rfl, hb⟩
    have B4 : Hid (Below w.heap.size w u4) := below_next BU.out hb
    have Z1 := Blk.below F1.out.1 hb
    have Z2 := Blk.below F1.out.2 hb
    have Z3 := Blk.below AB2.out hb
    have y1 : u4.cell? ⟨u2.heap.size + 1, 1, none⟩ = some (.int .i64 fc1) := Blk.cell Z2 1
    clear hb F1 BU Z1 Z2 Z3 AB2
    go_wp2_with fail
    go_ret
    exact ⟨rfl, B4.out⟩
  · skip
    have vb : bits .or .u64 (a0 * 2097152 + 135) 131072 = a0 * 2097152 + 131207 := or_bits a0 131072 (by omega) (by omega) (by omega) 131207 (by omega) (by decide)
    have XB : 0 ≤ a0 * 2097152 + 131207 ∧ a0 * 2097152 + 131207 < 18446744073709551616 := by omega
    have BW : Hid (Below w.heap.size w ((w.alloc (.cells #[.bool x, .bool u, .bool f] 23)).alloc (.cells #[.int .i64 0, .int .i64 0, .int .u64 4103, .int .i64 1, .int .i64 0, .int .u64 8199, .int .i64 2, .int .i64 3, .int .u64 (a0 * 2097152 + 131207)] 35))) := Go.Joins.below_alloc2 _ _ _
    have AB : Hid (Blk ((w.alloc (.cells #[.bool x, .bool u, .bool f] 23)).alloc (.cells #[.int .i64 0, .int .i64 0, .int .u64 4103, .int .i64 1, .int .i64 0, .int .u64 8199, .int .i64 2, .int .i64 3, .int .u64 (a0 * 2097152 + 131207)] 35)) w.heap.size [.bool x, .bool u, .bool f] 23) := (Blk.made w _ _).below (Go.Joins.below_alloc1 _ _)
    have T1 : Hid (Tab ((w.alloc (.cells #[.bool x, .bool u, .bool f] 23)).alloc (.cells #[.int .i64 0, .int .i64 0, .int .u64 4103, .int .i64 1, .int .i64 0, .int .u64 8199, .int .i64 2, .int .i64 3, .int .u64 (a0 * 2097152 + 131207)] 35))) := ht.keep (Go.Joins.below_alloc2 _ _ _)
    obtain ⟨M0, hM0⟩ : ∃ M0, M0 = layM (AL (a0 * 2097152 + 131207)) 3 := ⟨_, rfl⟩
    have LY : Hid (Calls Tryd.prog 6 #[.slice (some ⟨w.heap.size + 1, 0, none⟩) 3 3] ((w.alloc (.cells #[.bool x, .bool u, .bool f] 23)).alloc (.cells #[.int .i64 0, .int .i64 0, .int .u64 4103, .int .i64 1, .int .i64 0, .int .u64 8199, .int .i64 2, .int .i64 3, .int .u64 (a0 * 2097152 + 131207)] 35)) fun e w' => ∃ (rb g mb xb : Nat) (K : Nat → Prop) (S : List Nat), e = .returned (.tuple #[.pointer (some ⟨rb, 0, none⟩), .agg #[.int .i64 8, .slice (some ⟨g, 0, none⟩) 1 1, .map (some mb)]]) ∧ Play ((w.alloc (.cells #[.bool x, .bool u, .bool f] 23)).alloc (.cells #[.int .i64 0, .int .i64 0, .int .u64 4103, .int .i64 1, .int .i64 0, .int .u64 8199, .int .i64 2, .int .i64 3, .int .u64 (a0 * 2097152 + 131207)] 35)) w' K S rb 8 [(7, 8)] g 1 mb xb M0 M0 80 320) := by
      rw [hM0]; exact lay_ex _ 3 3 (AL (a0 * 2097152 + 131207)) (by have := MX.out; omega) ((w.alloc (.cells #[.bool x, .bool u, .bool f] 23)).alloc (.cells #[.int .i64 0, .int .i64 0, .int .u64 4103, .int .i64 1, .int .i64 0, .int .u64 8199, .int .i64 2, .int .i64 3, .int .u64 (a0 * 2097152 + 131207)] 35)) (putsL w _ (by simp [Lit.wf, IntKind.min, IntKind.max, IntKind.signed, IntKind.bits]; omega) x u f)
    have LG := large_bad a0 a1 131207 (by omega) (by omega) (by omega) (by omega) (by omega) (by omega) (by omega) x u f
    rw [show (((131207 : Nat)) : Int) = 131207 from rfl, ← hM0] at LG
    clear hM0 XB
    go_enter Tryd.func3, Tryd.ntmps3
    go_wp2_with fail
    refine LY.out.mono ?_
    rintro e u1 ⟨rb, g, mb, xb, K, S, rfl, h1⟩
    obtain ⟨K1, k1a, k1b, h9⟩ := h1.box1 (.cells #[.int .i64 8, .slice (some ⟨g, 0, none⟩) 1 1, .map (some mb)] 31)
    have P1 : Hid (Play ((w.alloc (.cells #[.bool x, .bool u, .bool f] 23)).alloc (.cells #[.int .i64 0, .int .i64 0, .int .u64 4103, .int .i64 1, .int .i64 0, .int .u64 8199, .int .i64 2, .int .i64 3, .int .u64 (a0 * 2097152 + 131207)] 35)) (u1.alloc (.cells #[.int .i64 8, .slice (some ⟨g, 0, none⟩) 1 1, .map (some mb)] 31)) K1 S rb 8 [(7, 8)] g 1 mb xb M0 M0 80 320) := h9
    have A1 := Blk.below AB.out h1.bel
    have lw : w.heap.size < u1.heap.size := blk_lt A1
    have q0 : u1.cell? ⟨w.heap.size, 0, none⟩ = some (.bool x) := Blk.cell A1 0
    have q1 : u1.cell? ⟨w.heap.size, 1, none⟩ = some (.bool u) := Blk.cell A1 1
    have q2 : u1.cell? ⟨w.heap.size, 2, none⟩ = some (.bool f) := Blk.cell A1 2
    clear LY h1 h9 k1a k1b A1
    obtain ⟨r1, hr1⟩ : ∃ r1, r1 = walkW Has8 M0 0 (6291461 + a1 * 4096) x u f := ⟨_, rfl⟩
    rw [← hr1] at LG
    have C1 : Calls Tryd.prog 7 #[.pointer (some ⟨rb, 0, none⟩), .int .i64 0, .int .u64 (6291461 + a1 * 4096), .agg #[.bool x, .bool u, .bool f]] (u1.alloc (.cells #[.int .i64 8, .slice (some ⟨g, 0, none⟩) 1 1, .map (some mb)] 31)) fun e w' => e = .returned r1.val ∧ Play ((w.alloc (.cells #[.bool x, .bool u, .bool f] 23)).alloc (.cells #[.int .i64 0, .int .i64 0, .int .u64 4103, .int .i64 1, .int .i64 0, .int .u64 8199, .int .i64 2, .int .i64 3, .int .u64 (a0 * 2097152 + 131207)] 35)) w' K1 S rb 8 [(7, 8)] g 1 mb xb r1.M M0 88 320 ∧ Kept K1 (u1.alloc (.cells #[.int .i64 8, .slice (some ⟨g, 0, none⟩) 1 1, .map (some mb)] 31)) w' := by
      rw [hr1]; exact walk_play P1.out T1.out (by have := MX.out; omega) 0 (6291461 + a1 * 4096) (by omega) (by omega) x u f
    clear hr1
    obtain ⟨er1, fa1, fc1, fr1, pw1, pu1, px1, g1, l1, d1, M1⟩ := r1
    simp only at LG
    have C1 : Hid (Calls Tryd.prog 7 #[.pointer (some ⟨rb, 0, none⟩), .int .i64 0, .int .u64 (6291461 + a1 * 4096), .agg #[.bool x, .bool u, .bool f]] (u1.alloc (.cells #[.int .i64 8, .slice (some ⟨g, 0, none⟩) 1 1, .map (some mb)] 31)) fun e w' => e = .returned (.tuple #[.agg #[.int .i64 fr1, .bool pw1, .bool pu1, .bool px1, .bool g1, .bool l1, .bool d1], .agg #[.int .u64 fa1, .int .i64 fc1], .int .i64 er1]) ∧ Play ((w.alloc (.cells #[.bool x, .bool u, .bool f] 23)).alloc (.cells #[.int .i64 0, .int .i64 0, .int .u64 4103, .int .i64 1, .int .i64 0, .int .u64 8199, .int .i64 2, .int .i64 3, .int .u64 (a0 * 2097152 + 131207)] 35)) w' K1 S rb 8 [(7, 8)] g 1 mb xb M1 M0 88 320 ∧ Kept K1 (u1.alloc (.cells #[.int .i64 8, .slice (some ⟨g, 0, none⟩) 1 1, .map (some mb)] 31)) w') := C1
    obtain ⟨g1', g2'⟩ := LG
    subst g1'
    clear P1
    go_wp2_with fail
    refine C1.out.mono ?_
    rintro e u2 ⟨rfl, h2, k2⟩
    have BU : Hid (Below w.heap.size w ((u2.alloc (.cells #[.int .i64 fr1, .bool pw1, .bool pu1, .bool px1, .bool g1, .bool l1, .bool d1] 40)).alloc (.cells #[.int .u64 fa1, .int .i64 fc1] 42))) := below_new (below_new (below_next BW.out h2.bel) _) _
    have F1 : Hid _ := made_2 u2 [.int .i64 fr1, .bool pw1, .bool pu1, .bool px1, .bool g1, .bool l1, .bool d1] [.int .u64 fa1, .int .i64 fc1] 40 42
    have AB2 : Hid (Blk ((u2.alloc (.cells #[.int .i64 fr1, .bool pw1, .bool pu1, .bool px1, .bool g1, .bool l1, .bool d1] 40)).alloc (.cells #[.int .u64 fa1, .int .i64 fc1] 42)) w.heap.size [.bool x, .bool u, .bool f] 23) := Blk.below (Blk.below AB.out h2.bel) (Go.Joins.below_alloc2 _ _ _)
    clear C1 h2 k2 q0 q1 q2 AB
    go_wp2_with fail
    refine (AW.out _ BU.out).mono ?_
    rintro e u4 ⟨rfl, hb⟩
    have B4 : Hid (Below w.heap.size w u4) := below_next BU.out hb
    have Z1 := Blk.below F1.out.1 hb
    have Z2 := Blk.below F1.out.2 hb
    have Z3 := Blk.below AB2.out hb
    have y1 : u4.cell? ⟨u2.heap.size + 1, 1, none⟩ = some (.int .i64 fc1) := Blk.cell Z2 1
    clear hb F1 BU Z1 Z2 Z3 AB2
    go_wp2_with fail
    go_ret
    exact ⟨rfl, B4.out⟩
  · skip
    have vb : bits .or .u64 (a0 * 2097152 + 135) 262144 = a0 * 2097152 + 262279 := or_bits a0 262144 (by omega) (by omega) (by omega) 262279 (by omega) (by decide)
    have XB : 0 ≤ a0 * 2097152 + 262279 ∧ a0 * 2097152 + 262279 < 18446744073709551616 := by omega
    have BW : Hid (Below w.heap.size w ((w.alloc (.cells #[.bool x, .bool u, .bool f] 23)).alloc (.cells #[.int .i64 0, .int .i64 0, .int .u64 4103, .int .i64 1, .int .i64 0, .int .u64 8199, .int .i64 2, .int .i64 3, .int .u64 (a0 * 2097152 + 262279)] 35))) := Go.Joins.below_alloc2 _ _ _
    have AB : Hid (Blk ((w.alloc (.cells #[.bool x, .bool u, .bool f] 23)).alloc (.cells #[.int .i64 0, .int .i64 0, .int .u64 4103, .int .i64 1, .int .i64 0, .int .u64 8199, .int .i64 2, .int .i64 3, .int .u64 (a0 * 2097152 + 262279)] 35)) w.heap.size [.bool x, .bool u, .bool f] 23) := (Blk.made w _ _).below (Go.Joins.below_alloc1 _ _)
    have T1 : Hid (Tab ((w.alloc (.cells #[.bool x, .bool u, .bool f] 23)).alloc (.cells #[.int .i64 0, .int .i64 0, .int .u64 4103, .int .i64 1, .int .i64 0, .int .u64 8199, .int .i64 2, .int .i64 3, .int .u64 (a0 * 2097152 + 262279)] 35))) := ht.keep (Go.Joins.below_alloc2 _ _ _)
    obtain ⟨M0, hM0⟩ : ∃ M0, M0 = layM (AL (a0 * 2097152 + 262279)) 3 := ⟨_, rfl⟩
    have LY : Hid (Calls Tryd.prog 6 #[.slice (some ⟨w.heap.size + 1, 0, none⟩) 3 3] ((w.alloc (.cells #[.bool x, .bool u, .bool f] 23)).alloc (.cells #[.int .i64 0, .int .i64 0, .int .u64 4103, .int .i64 1, .int .i64 0, .int .u64 8199, .int .i64 2, .int .i64 3, .int .u64 (a0 * 2097152 + 262279)] 35)) fun e w' => ∃ (rb g mb xb : Nat) (K : Nat → Prop) (S : List Nat), e = .returned (.tuple #[.pointer (some ⟨rb, 0, none⟩), .agg #[.int .i64 8, .slice (some ⟨g, 0, none⟩) 1 1, .map (some mb)]]) ∧ Play ((w.alloc (.cells #[.bool x, .bool u, .bool f] 23)).alloc (.cells #[.int .i64 0, .int .i64 0, .int .u64 4103, .int .i64 1, .int .i64 0, .int .u64 8199, .int .i64 2, .int .i64 3, .int .u64 (a0 * 2097152 + 262279)] 35)) w' K S rb 8 [(7, 8)] g 1 mb xb M0 M0 80 320) := by
      rw [hM0]; exact lay_ex _ 3 3 (AL (a0 * 2097152 + 262279)) (by have := MX.out; omega) ((w.alloc (.cells #[.bool x, .bool u, .bool f] 23)).alloc (.cells #[.int .i64 0, .int .i64 0, .int .u64 4103, .int .i64 1, .int .i64 0, .int .u64 8199, .int .i64 2, .int .i64 3, .int .u64 (a0 * 2097152 + 262279)] 35)) (putsL w _ (by simp [Lit.wf, IntKind.min, IntKind.max, IntKind.signed, IntKind.bits]; omega) x u f)
    have LG := large_bad a0 a1 262279 (by omega) (by omega) (by omega) (by omega) (by omega) (by omega) (by omega) x u f
    rw [show (((262279 : Nat)) : Int) = 262279 from rfl, ← hM0] at LG
    clear hM0 XB
    go_enter Tryd.func3, Tryd.ntmps3
    go_wp2_with fail
    refine LY.out.mono ?_
    rintro e u1 ⟨rb, g, mb, xb, K, S, rfl, h1⟩
    obtain ⟨K1, k1a, k1b, h9⟩ := h1.box1 (.cells #[.int .i64 8, .slice (some ⟨g, 0, none⟩) 1 1, .map (some mb)] 31)
    have P1 : Hid (Play ((w.alloc (.cells #[.bool x, .bool u, .bool f] 23)).alloc (.cells #[.int .i64 0, .int .i64 0, .int .u64 4103, .int .i64 1, .int .i64 0, .int .u64 8199, .int .i64 2, .int .i64 3, .int .u64 (a0 * 2097152 + 262279)] 35)) (u1.alloc (.cells #[.int .i64 8, .slice (some ⟨g, 0, none⟩) 1 1, .map (some mb)] 31)) K1 S rb 8 [(7, 8)] g 1 mb xb M0 M0 80 320) := h9
    have A1 := Blk.below AB.out h1.bel
    have lw : w.heap.size < u1.heap.size := blk_lt A1
    have q0 : u1.cell? ⟨w.heap.size, 0, none⟩ = some (.bool x) := Blk.cell A1 0
    have q1 : u1.cell? ⟨w.heap.size, 1, none⟩ = some (.bool u) := Blk.cell A1 1
    have q2 : u1.cell? ⟨w.heap.size, 2, none⟩ = some (.bool f) := Blk.cell A1 2
    clear LY h1 h9 k1a k1b A1
    obtain ⟨r1, hr1⟩ : ∃ r1, r1 = walkW Has8 M0 0 (6291461 + a1 * 4096) x u f := ⟨_, rfl⟩
    rw [← hr1] at LG
    have C1 : Calls Tryd.prog 7 #[.pointer (some ⟨rb, 0, none⟩), .int .i64 0, .int .u64 (6291461 + a1 * 4096), .agg #[.bool x, .bool u, .bool f]] (u1.alloc (.cells #[.int .i64 8, .slice (some ⟨g, 0, none⟩) 1 1, .map (some mb)] 31)) fun e w' => e = .returned r1.val ∧ Play ((w.alloc (.cells #[.bool x, .bool u, .bool f] 23)).alloc (.cells #[.int .i64 0, .int .i64 0, .int .u64 4103, .int .i64 1, .int .i64 0, .int .u64 8199, .int .i64 2, .int .i64 3, .int .u64 (a0 * 2097152 + 262279)] 35)) w' K1 S rb 8 [(7, 8)] g 1 mb xb r1.M M0 88 320 ∧ Kept K1 (u1.alloc (.cells #[.int .i64 8, .slice (some ⟨g, 0, none⟩) 1 1, .map (some mb)] 31)) w' := by
      rw [hr1]; exact walk_play P1.out T1.out (by have := MX.out; omega) 0 (6291461 + a1 * 4096) (by omega) (by omega) x u f
    clear hr1
    obtain ⟨er1, fa1, fc1, fr1, pw1, pu1, px1, g1, l1, d1, M1⟩ := r1
    simp only at LG
    have C1 : Hid (Calls Tryd.prog 7 #[.pointer (some ⟨rb, 0, none⟩), .int .i64 0, .int .u64 (6291461 + a1 * 4096), .agg #[.bool x, .bool u, .bool f]] (u1.alloc (.cells #[.int .i64 8, .slice (some ⟨g, 0, none⟩) 1 1, .map (some mb)] 31)) fun e w' => e = .returned (.tuple #[.agg #[.int .i64 fr1, .bool pw1, .bool pu1, .bool px1, .bool g1, .bool l1, .bool d1], .agg #[.int .u64 fa1, .int .i64 fc1], .int .i64 er1]) ∧ Play ((w.alloc (.cells #[.bool x, .bool u, .bool f] 23)).alloc (.cells #[.int .i64 0, .int .i64 0, .int .u64 4103, .int .i64 1, .int .i64 0, .int .u64 8199, .int .i64 2, .int .i64 3, .int .u64 (a0 * 2097152 + 262279)] 35)) w' K1 S rb 8 [(7, 8)] g 1 mb xb M1 M0 88 320 ∧ Kept K1 (u1.alloc (.cells #[.int .i64 8, .slice (some ⟨g, 0, none⟩) 1 1, .map (some mb)] 31)) w') := C1
    obtain ⟨g1', g2'⟩ := LG
    subst g1'
    clear P1
    go_wp2_with fail
    refine C1.out.mono ?_
    rintro e u2 ⟨rfl, h2, k2⟩
    have BU : Hid (Below w.heap.size w ((u2.alloc (.cells #[.int .i64 fr1, .bool pw1, .bool pu1, .bool px1, .bool g1, .bool l1, .bool d1] 40)).alloc (.cells #[.int .u64 fa1, .int .i64 fc1] 42))) := below_new (below_new (below_next BW.out h2.bel) _) _
    have F1 : Hid _ := made_2 u2 [.int .i64 fr1, .bool pw1, .bool pu1, .bool px1, .bool g1, .bool l1, .bool d1] [.int .u64 fa1, .int .i64 fc1] 40 42
    have AB2 : Hid (Blk ((u2.alloc (.cells #[.int .i64 fr1, .bool pw1, .bool pu1, .bool px1, .bool g1, .bool l1, .bool d1] 40)).alloc (.cells #[.int .u64 fa1, .int .i64 fc1] 42)) w.heap.size [.bool x, .bool u, .bool f] 23) := Blk.below (Blk.below AB.out h2.bel) (Go.Joins.below_alloc2 _ _ _)
    clear C1 h2 k2 q0 q1 q2 AB
    go_wp2_with fail
    refine (AW.out _ BU.out).mono ?_
    rintro e u4 ⟨rfl, hb⟩
    have B4 : Hid (Below w.heap.size w u4) := below_next BU.out hb
    have Z1 := Blk.below F1.out.1 hb
    have Z2 := Blk.below F1.out.2 hb
    have Z3 := Blk.below AB2.out hb
    have y1 : u4.cell? ⟨u2.heap.size + 1, 1, none⟩ = some (.int .i64 fc1) := Blk.cell Z2 1
    clear hb F1 BU Z1 Z2 Z3 AB2
    go_wp2_with fail
    go_ret
    exact ⟨rfl, B4.out⟩
  · skip
    have vb : bits .or .u64 (a0 * 2097152 + 135) 524288 = a0 * 2097152 + 524423 := or_bits a0 524288 (by omega) (by omega) (by omega) 524423 (by omega) (by decide)
    have XB : 0 ≤ a0 * 2097152 + 524423 ∧ a0 * 2097152 + 524423 < 18446744073709551616 := by omega
    have BW : Hid (Below w.heap.size w ((w.alloc (.cells #[.bool x, .bool u, .bool f] 23)).alloc (.cells #[.int .i64 0, .int .i64 0, .int .u64 4103, .int .i64 1, .int .i64 0, .int .u64 8199, .int .i64 2, .int .i64 3, .int .u64 (a0 * 2097152 + 524423)] 35))) := Go.Joins.below_alloc2 _ _ _
    have AB : Hid (Blk ((w.alloc (.cells #[.bool x, .bool u, .bool f] 23)).alloc (.cells #[.int .i64 0, .int .i64 0, .int .u64 4103, .int .i64 1, .int .i64 0, .int .u64 8199, .int .i64 2, .int .i64 3, .int .u64 (a0 * 2097152 + 524423)] 35)) w.heap.size [.bool x, .bool u, .bool f] 23) := (Blk.made w _ _).below (Go.Joins.below_alloc1 _ _)
    have T1 : Hid (Tab ((w.alloc (.cells #[.bool x, .bool u, .bool f] 23)).alloc (.cells #[.int .i64 0, .int .i64 0, .int .u64 4103, .int .i64 1, .int .i64 0, .int .u64 8199, .int .i64 2, .int .i64 3, .int .u64 (a0 * 2097152 + 524423)] 35))) := ht.keep (Go.Joins.below_alloc2 _ _ _)
    obtain ⟨M0, hM0⟩ : ∃ M0, M0 = layM (AL (a0 * 2097152 + 524423)) 3 := ⟨_, rfl⟩
    have LY : Hid (Calls Tryd.prog 6 #[.slice (some ⟨w.heap.size + 1, 0, none⟩) 3 3] ((w.alloc (.cells #[.bool x, .bool u, .bool f] 23)).alloc (.cells #[.int .i64 0, .int .i64 0, .int .u64 4103, .int .i64 1, .int .i64 0, .int .u64 8199, .int .i64 2, .int .i64 3, .int .u64 (a0 * 2097152 + 524423)] 35)) fun e w' => ∃ (rb g mb xb : Nat) (K : Nat → Prop) (S : List Nat), e = .returned (.tuple #[.pointer (some ⟨rb, 0, none⟩), .agg #[.int .i64 8, .slice (some ⟨g, 0, none⟩) 1 1, .map (some mb)]]) ∧ Play ((w.alloc (.cells #[.bool x, .bool u, .bool f] 23)).alloc (.cells #[.int .i64 0, .int .i64 0, .int .u64 4103, .int .i64 1, .int .i64 0, .int .u64 8199, .int .i64 2, .int .i64 3, .int .u64 (a0 * 2097152 + 524423)] 35)) w' K S rb 8 [(7, 8)] g 1 mb xb M0 M0 80 320) := by
      rw [hM0]; exact lay_ex _ 3 3 (AL (a0 * 2097152 + 524423)) (by have := MX.out; omega) ((w.alloc (.cells #[.bool x, .bool u, .bool f] 23)).alloc (.cells #[.int .i64 0, .int .i64 0, .int .u64 4103, .int .i64 1, .int .i64 0, .int .u64 8199, .int .i64 2, .int .i64 3, .int .u64 (a0 * 2097152 + 524423)] 35)) (putsL w _ (by simp [Lit.wf, IntKind.min, IntKind.max, IntKind.signed, IntKind.bits]; omega) x u f)
    have LG := large_bad a0 a1 524423 (by omega) (by omega) (by omega) (by omega) (by omega) (by omega) (by omega) x u f
    rw [show (((524423 : Nat)) : Int) = 524423 from rfl, ← hM0] at LG
    clear hM0 XB
    go_enter Tryd.func3, Tryd.ntmps3
    go_wp2_with fail
    refine LY.out.mono ?_
    rintro e u1 ⟨rb, g, mb, xb, K, S, rfl, h1⟩
    obtain ⟨K1, k1a, k1b, h9⟩ := h1.box1 (.cells #[.int .i64 8, .slice (some ⟨g, 0, none⟩) 1 1, .map (some mb)] 31)
    have P1 : Hid (Play ((w.alloc (.cells #[.bool x, .bool u, .bool f] 23)).alloc (.cells #[.int .i64 0, .int .i64 0, .int .u64 4103, .int .i64 1, .int .i64 0, .int .u64 8199, .int .i64 2, .int .i64 3, .int .u64 (a0 * 2097152 + 524423)] 35)) (u1.alloc (.cells #[.int .i64 8, .slice (some ⟨g, 0, none⟩) 1 1, .map (some mb)] 31)) K1 S rb 8 [(7, 8)] g 1 mb xb M0 M0 80 320) := h9
    have A1 := Blk.below AB.out h1.bel
    have lw : w.heap.size < u1.heap.size := blk_lt A1
    have q0 : u1.cell? ⟨w.heap.size, 0, none⟩ = some (.bool x) := Blk.cell A1 0
    have q1 : u1.cell? ⟨w.heap.size, 1, none⟩ = some (.bool u) := Blk.cell A1 1
    have q2 : u1.cell? ⟨w.heap.size, 2, none⟩ = some (.bool f) := Blk.cell A1 2
    clear LY h1 h9 k1a k1b A1
    obtain ⟨r1, hr1⟩ : ∃ r1, r1 = walkW Has8 M0 0 (6291461 + a1 * 4096) x u f := ⟨_, rfl⟩
    rw [← hr1] at LG
    have C1 : Calls Tryd.prog 7 #[.pointer (some ⟨rb, 0, none⟩), .int .i64 0, .int .u64 (6291461 + a1 * 4096), .agg #[.bool x, .bool u, .bool f]] (u1.alloc (.cells #[.int .i64 8, .slice (some ⟨g, 0, none⟩) 1 1, .map (some mb)] 31)) fun e w' => e = .returned r1.val ∧ Play ((w.alloc (.cells #[.bool x, .bool u, .bool f] 23)).alloc (.cells #[.int .i64 0, .int .i64 0, .int .u64 4103, .int .i64 1, .int .i64 0, .int .u64 8199, .int .i64 2, .int .i64 3, .int .u64 (a0 * 2097152 + 524423)] 35)) w' K1 S rb 8 [(7, 8)] g 1 mb xb r1.M M0 88 320 ∧ Kept K1 (u1.alloc (.cells #[.int .i64 8, .slice (some ⟨g, 0, none⟩) 1 1, .map (some mb)] 31)) w' := by
      rw [hr1]; exact walk_play P1.out T1.out (by have := MX.out; omega) 0 (6291461 + a1 * 4096) (by omega) (by omega) x u f
    clear hr1
    obtain ⟨er1, fa1, fc1, fr1, pw1, pu1, px1, g1, l1, d1, M1⟩ := r1
    simp only at LG
    have C1 : Hid (Calls Tryd.prog 7 #[.pointer (some ⟨rb, 0, none⟩), .int .i64 0, .int .u64 (6291461 + a1 * 4096), .agg #[.bool x, .bool u, .bool f]] (u1.alloc (.cells #[.int .i64 8, .slice (some ⟨g, 0, none⟩) 1 1, .map (some mb)] 31)) fun e w' => e = .returned (.tuple #[.agg #[.int .i64 fr1, .bool pw1, .bool pu1, .bool px1, .bool g1, .bool l1, .bool d1], .agg #[.int .u64 fa1, .int .i64 fc1], .int .i64 er1]) ∧ Play ((w.alloc (.cells #[.bool x, .bool u, .bool f] 23)).alloc (.cells #[.int .i64 0, .int .i64 0, .int .u64 4103, .int .i64 1, .int .i64 0, .int .u64 8199, .int .i64 2, .int .i64 3, .int .u64 (a0 * 2097152 + 524423)] 35)) w' K1 S rb 8 [(7, 8)] g 1 mb xb M1 M0 88 320 ∧ Kept K1 (u1.alloc (.cells #[.int .i64 8, .slice (some ⟨g, 0, none⟩) 1 1, .map (some mb)] 31)) w') := C1
    obtain ⟨g1', g2'⟩ := LG
    subst g1'
    clear P1
    go_wp2_with fail
    refine C1.out.mono ?_
    rintro e u2 ⟨rfl, h2, k2⟩
    have BU : Hid (Below w.heap.size w ((u2.alloc (.cells #[.int .i64 fr1, .bool pw1, .bool pu1, .bool px1, .bool g1, .bool l1, .bool d1] 40)).alloc (.cells #[.int .u64 fa1, .int .i64 fc1] 42))) := below_new (below_new (below_next BW.out h2.bel) _) _
    have F1 : Hid _ := made_2 u2 [.int .i64 fr1, .bool pw1, .bool pu1, .bool px1, .bool g1, .bool l1, .bool d1] [.int .u64 fa1, .int .i64 fc1] 40 42
    have AB2 : Hid (Blk ((u2.alloc (.cells #[.int .i64 fr1, .bool pw1, .bool pu1, .bool px1, .bool g1, .bool l1, .bool d1] 40)).alloc (.cells #[.int .u64 fa1, .int .i64 fc1] 42)) w.heap.size [.bool x, .bool u, .bool f] 23) := Blk.below (Blk.below AB.out h2.bel) (Go.Joins.below_alloc2 _ _ _)
    clear C1 h2 k2 q0 q1 q2 AB
    go_wp2_with fail
    refine (AW.out _ BU.out).mono ?_
    rintro e u4 ⟨rfl, hb⟩
    have B4 : Hid (Below w.heap.size w u4) := below_next BU.out hb
    have Z1 := Blk.below F1.out.1 hb
    have Z2 := Blk.below F1.out.2 hb
    have Z3 := Blk.below AB2.out hb
    have y1 : u4.cell? ⟨u2.heap.size + 1, 1, none⟩ = some (.int .i64 fc1) := Blk.cell Z2 1
    clear hb F1 BU Z1 Z2 Z3 AB2
    go_wp2_with fail
    go_ret
    exact ⟨rfl, B4.out⟩
  · skip
    have vb : bits .or .u64 (a0 * 2097152 + 135) 1048576 = a0 * 2097152 + 1048711 := or_bits a0 1048576 (by omega) (by omega) (by omega) 1048711 (by omega) (by decide)
    have XB : 0 ≤ a0 * 2097152 + 1048711 ∧ a0 * 2097152 + 1048711 < 18446744073709551616 := by omega
    have BW : Hid (Below w.heap.size w ((w.alloc (.cells #[.bool x, .bool u, .bool f] 23)).alloc (.cells #[.int .i64 0, .int .i64 0, .int .u64 4103, .int .i64 1, .int .i64 0, .int .u64 8199, .int .i64 2, .int .i64 3, .int .u64 (a0 * 2097152 + 1048711)] 35))) := Go.Joins.below_alloc2 _ _ _
    have AB : Hid (Blk ((w.alloc (.cells #[.bool x, .bool u, .bool f] 23)).alloc (.cells #[.int .i64 0, .int .i64 0, .int .u64 4103, .int .i64 1, .int .i64 0, .int .u64 8199, .int .i64 2, .int .i64 3, .int .u64 (a0 * 2097152 + 1048711)] 35)) w.heap.size [.bool x, .bool u, .bool f] 23) := (Blk.made w _ _).below (Go.Joins.below_alloc1 _ _)
    have T1 : Hid (Tab ((w.alloc (.cells #[.bool x, .bool u, .bool f] 23)).alloc (.cells #[.int .i64 0, .int .i64 0, .int .u64 4103, .int .i64 1, .int .i64 0, .int .u64 8199, .int .i64 2, .int .i64 3, .int .u64 (a0 * 2097152 + 1048711)] 35))) := ht.keep (Go.Joins.below_alloc2 _ _ _)
    obtain ⟨M0, hM0⟩ : ∃ M0, M0 = layM (AL (a0 * 2097152 + 1048711)) 3 := ⟨_, rfl⟩
    have LY : Hid (Calls Tryd.prog 6 #[.slice (some ⟨w.heap.size + 1, 0, none⟩) 3 3] ((w.alloc (.cells #[.bool x, .bool u, .bool f] 23)).alloc (.cells #[.int .i64 0, .int .i64 0, .int .u64 4103, .int .i64 1, .int .i64 0, .int .u64 8199, .int .i64 2, .int .i64 3, .int .u64 (a0 * 2097152 + 1048711)] 35)) fun e w' => ∃ (rb g mb xb : Nat) (K : Nat → Prop) (S : List Nat), e = .returned (.tuple #[.pointer (some ⟨rb, 0, none⟩), .agg #[.int .i64 8, .slice (some ⟨g, 0, none⟩) 1 1, .map (some mb)]]) ∧ Play ((w.alloc (.cells #[.bool x, .bool u, .bool f] 23)).alloc (.cells #[.int .i64 0, .int .i64 0, .int .u64 4103, .int .i64 1, .int .i64 0, .int .u64 8199, .int .i64 2, .int .i64 3, .int .u64 (a0 * 2097152 + 1048711)] 35)) w' K S rb 8 [(7, 8)] g 1 mb xb M0 M0 80 320) := by
      rw [hM0]; exact lay_ex _ 3 3 (AL (a0 * 2097152 + 1048711)) (by have := MX.out; omega) ((w.alloc (.cells #[.bool x, .bool u, .bool f] 23)).alloc (.cells #[.int .i64 0, .int .i64 0, .int .u64 4103, .int .i64 1, .int .i64 0, .int .u64 8199, .int .i64 2, .int .i64 3, .int .u64 (a0 * 2097152 + 1048711)] 35)) (putsL w _ (by simp [Lit.wf, IntKind.min, IntKind.max, IntKind.signed, IntKind.bits]; omega) x u f)
    have LG := large_bad a0 a1 1048711 (by omega) (by omega) (by omega) (by omega) (by omega) (by omega) (by omega) x u f
    rw [show (((1048711 : Nat)) : Int) = 1048711 from rfl, ← hM0] at LG
    clear hM0 XB
    go_enter Tryd.func3, Tryd.ntmps3
    go_wp2_with fail
    refine LY.out.mono ?_
    rintro e u1 ⟨rb, g, mb, xb, K, S, rfl, h1⟩
    obtain ⟨K1, k1a, k1b, h9⟩ := h1.box1 (.cells #[.int .i64 8, .slice (some ⟨g, 0, none⟩) 1 1, .map (some mb)] 31)
    have P1 : Hid (Play ((w.alloc (.cells #[.bool x, .bool u, .bool f] 23)).alloc (.cells #[.int .i64 0, .int .i64 0, .int .u64 4103, .int .i64 1, .int .i64 0, .int .u64 8199, .int .i64 2, .int .i64 3, .int .u64 (a0 * 2097152 + 1048711)] 35)) (u1.alloc (.cells #[.int .i64 8, .slice (some ⟨g, 0, none⟩) 1 1, .map (some mb)] 31)) K1 S rb 8 [(7, 8)] g 1 mb xb M0 M0 80 320) := h9
    have A1 := Blk.below AB.out h1.bel
    have lw : w.heap.size < u1.heap.size := blk_lt A1
    have q0 : u1.cell? ⟨w.heap.size, 0, none⟩ = some (.bool x) := Blk.cell A1 0
    have q1 : u1.cell? ⟨w.heap.size, 1, none⟩ = some (.bool u) := Blk.cell A1 1
    have q2 : u1.cell? ⟨w.heap.size, 2, none⟩ = some (.bool f) := Blk.cell A1 2
    clear LY h1 h9 k1a k1b A1
    obtain ⟨r1, hr1⟩ : ∃ r1, r1 = walkW Has8 M0 0 (6291461 + a1 * 4096) x u f := ⟨_, rfl⟩
    rw [← hr1] at LG
    have C1 : Calls Tryd.prog 7 #[.pointer (some ⟨rb, 0, none⟩), .int .i64 0, .int .u64 (6291461 + a1 * 4096), .agg #[.bool x, .bool u, .bool f]] (u1.alloc (.cells #[.int .i64 8, .slice (some ⟨g, 0, none⟩) 1 1, .map (some mb)] 31)) fun e w' => e = .returned r1.val ∧ Play ((w.alloc (.cells #[.bool x, .bool u, .bool f] 23)).alloc (.cells #[.int .i64 0, .int .i64 0, .int .u64 4103, .int .i64 1, .int .i64 0, .int .u64 8199, .int .i64 2, .int .i64 3, .int .u64 (a0 * 2097152 + 1048711)] 35)) w' K1 S rb 8 [(7, 8)] g 1 mb xb r1.M M0 88 320 ∧ Kept K1 (u1.alloc (.cells #[.int .i64 8, .slice (some ⟨g, 0, none⟩) 1 1, .map (some mb)] 31)) w' := by
      rw [hr1]; exact walk_play P1.out T1.out (by have := MX.out; omega) 0 (6291461 + a1 * 4096) (by omega) (by omega) x u f
    clear hr1
    obtain ⟨er1, fa1, fc1, fr1, pw1, pu1, px1, g1, l1, d1, M1⟩ := r1
    simp only at LG
    have C1 : Hid (Calls Tryd.prog 7 #[.pointer (some ⟨rb, 0, none⟩), .int .i64 0, .int .u64 (6291461 + a1 * 4096), .agg #[.bool x, .bool u, .bool f]] (u1.alloc (.cells #[.int .i64 8, .slice (some ⟨g, 0, none⟩) 1 1, .map (some mb)] 31)) fun e w' => e = .returned (.tuple #[.agg #[.int .i64 fr1, .bool pw1, .bool pu1, .bool px1, .bool g1, .bool l1, .bool d1], .agg #[.int .u64 fa1, .int .i64 fc1], .int .i64 er1]) ∧ Play ((w.alloc (.cells #[.bool x, .bool u, .bool f] 23)).alloc (.cells #[.int .i64 0, .int .i64 0, .int .u64 4103, .int .i64 1, .int .i64 0, .int .u64 8199, .int .i64 2, .int .i64 3, .int .u64 (a0 * 2097152 + 1048711)] 35)) w' K1 S rb 8 [(7, 8)] g 1 mb xb M1 M0 88 320 ∧ Kept K1 (u1.alloc (.cells #[.int .i64 8, .slice (some ⟨g, 0, none⟩) 1 1, .map (some mb)] 31)) w') := C1
    obtain ⟨g1', g2'⟩ := LG
    subst g1'
    clear P1
    go_wp2_with fail
    refine C1.out.mono ?_
    rintro e u2 ⟨rfl, h2, k2⟩
    have BU : Hid (Below w.heap.size w ((u2.alloc (.cells #[.int .i64 fr1, .bool pw1, .bool pu1, .bool px1, .bool g1, .bool l1, .bool d1] 40)).alloc (.cells #[.int .u64 fa1, .int .i64 fc1] 42))) := below_new (below_new (below_next BW.out h2.bel) _) _
    have F1 : Hid _ := made_2 u2 [.int .i64 fr1, .bool pw1, .bool pu1, .bool px1, .bool g1, .bool l1, .bool d1] [.int .u64 fa1, .int .i64 fc1] 40 42
    have AB2 : Hid (Blk ((u2.alloc (.cells #[.int .i64 fr1, .bool pw1, .bool pu1, .bool px1, .bool g1, .bool l1, .bool d1] 40)).alloc (.cells #[.int .u64 fa1, .int .i64 fc1] 42)) w.heap.size [.bool x, .bool u, .bool f] 23) := Blk.below (Blk.below AB.out h2.bel) (Go.Joins.below_alloc2 _ _ _)
    clear C1 h2 k2 q0 q1 q2 AB
    go_wp2_with fail
    refine (AW.out _ BU.out).mono ?_
    rintro e u4 ⟨rfl, hb⟩
    have B4 : Hid (Below w.heap.size w u4) := below_next BU.out hb
    have Z1 := Blk.below F1.out.1 hb
    have Z2 := Blk.below F1.out.2 hb
    have Z3 := Blk.below AB2.out hb
    have y1 : u4.cell? ⟨u2.heap.size + 1, 1, none⟩ = some (.int .i64 fc1) := Blk.cell Z2 1
    clear hb F1 BU Z1 Z2 Z3 AB2
    go_wp2_with fail
    go_ret
    exact ⟨rfl, B4.out⟩

set_option maxRecDepth 100000 in
theorem lifted (os : Os) (started : os.Started) (H : Type) (enc : TypeId × Value → H) :
    ReturnsInHanded {} Tryd.checked os 3 .any (fun w args => (Rows.walkLargeSpec.pre enc Tryd.prog Tryd.f3 [] false w args ∧ laidMetH Tryd.prog laidL w) ∧ sizedMet enc Tryd.prog Tryd.f3 (OpenSpec.ofChange Rows.walkLargeSpec) false w args)
      (Rows.walkLargeSpec.post enc Tryd.prog Tryd.f3 false true false false) := by
  refine returnsInHanded_of_change_and (C := Tryd.checked) (X := fun w _ => laidMetH Tryd.prog laidL w) (fun _ _ _ hh h => h.of_heap hh) own started (by kernel_rfl) Tryd.func3
    (ChangeSpec.witness_shaped (enc := enc) (C := Tryd.checked) (os := os) (X := fun w _ => laidMetH Tryd.prog laidL w) false (World.doorLaid Tryd.prog 400 os) #[.int .i64 0, .int .i64 0, .int .i64 0, .agg #[.bool false, .bool false, .bool false]] 8 rfl (World.shaped_of_RefB (by kernel_rfl) (by kernel_rfl)) (by kernel_rfl) (by kernel_rfl) (by kernel_rfl) (door_met os _)) ?_
  intro W base args ds gs before hval0 hW _ _ hL _
  have hval : ∀ (j : Nat) t v, Tryd.f3.params[j]? = some t → args[j]? = some v → Value.okWide Tryd.prog W .any base t v := hval0
  have hW' := hW
  obtain ⟨p, q, hA0, hV, hbef, hfz, hnd⟩ := hW
  have hA : DataW.TrodAll enc Tryd.prog W 0 (fun _ => true) true Tryd.f3.params.toList args.toList ds p := hA0
  have hAk := hA
  have hlt : ∀ x ∈ p, x.block < W.heap.size := fun x hx => hW'.lt x (by rw [hbef]; exact List.mem_append_left _ hx)
  rw [Tryd.params3] at hA hval
  obtain ⟨v0, vs0, d0, ds0, p0, q0, hargs, rfl, hp0, h0, r0⟩ := trodAll_cons hA
  obtain ⟨v1, vs1, d1, ds1, p1, q1, rfl, rfl, hp1, h1, r1⟩ := trodAll_cons r0
  obtain ⟨v2, vs2, d2, ds2, p2, q2, rfl, rfl, hp2, h2, r2⟩ := trodAll_cons r1
  obtain ⟨v3, vs3, d3, ds3, p3, q3, rfl, rfl, hp3, h3, r3⟩ := trodAll_cons r2
  obtain ⟨rfl, rfl, hpz⟩ := trodAll_nil r3
  obtain rfl : args = #[v0, v1, v2, v3] := by cases args; simp_all
  obtain ⟨rfl, rfl⟩ := trodVars_none hV
  obtain ⟨a0, rfl, _, _, w0⟩ := open_int Tryd.underlying3 (hval 0 3 v0 rfl rfl) h0
  obtain ⟨a1, rfl, _, _, w1⟩ := open_int Tryd.underlying3 (hval 1 3 v1 rfl rfl) h1
  obtain ⟨a2, rfl, _, _, w2⟩ := open_int Tryd.underlying3 (hval 2 3 v2 rfl rfl) h2
  obtain ⟨s3, rfl, _⟩ := open_ac3 (hval 3 23 v3 rfl rfl) h3
  clear hA0 hval0
  refine (walk a0 w0 a1 w1 a2 w2 s3 W (of_laid hL) ).mono fun e W' ⟨he, hg⟩ => ?_
  subst he
  exact ⟨_, rfl, ⟨_, _, _, [], p, [], hW', (trodAll_cons_mk (shut_bool Tryd.underlying4 _) trodAll_mk0), args_stay laidOut hg (by kernel_rfl) hAk hlt, rfl, hg.frame _, fun h => by cases h⟩⟩

theorem over : Rows.walkLargeRow.holds Tryd.pinned (OpenSpec.ofChange Rows.walkLargeSpec) :=
  OpenClaim.holds_of_wide 3 Tryd.f3 rfl rfl rfl rfl rfl rfl rfl ⟨rfl, rfl, rfl, rfl, rfl⟩ rfl rfl rfl rfl rfl (by kernel_rfl) Tryd.func3 (by kernel_rfl)
    (of_decide_eq_true (by kernel_rfl)) (by unfold Func.isWrapper; first | (rw [if_pos (by decide +kernel)]; kernel_rfl) | (rw [if_neg (by decide +kernel)]; exact ⟨rfl, rfl⟩))
    (fun os started H enc _ => lifted os started H enc)

theorem proved : Rows.WalkLargeCardSaid :=
  Claim7.holds_tied_plain_at .later [] [.data] true (true, "55063500961b4ca9307a97c709944f6f63bdc8680f67eae42bf68c0142f2b71d") true
    over (fun _ h => by cases h) (by kernel_rfl) (fun _ h => by cases h) walkLarge_row_tie rfl ⟨rfl, rfl⟩ (by kernel_rfl) rfl
    (fun f fn hf hfn => by
      obtain rfl : f = 3 := Option.some.inj ((show Tryd.prog.funcNamed "demesne/demesnelaw04.WalkLarge" = some 3 by kernel_rfl).symm.trans hf) |>.symm
      obtain rfl : fn = Tryd.f3 := (Option.some.inj (Tryd.func3.symm.trans hfn)).symm
      exact ⟨by kernel_rfl, fun j t ht => by
        rw [Tryd.params3] at ht
        have hm : t ∈ [3, 3, 3, 23] := by simpa using Array.mem_of_getElem? ht
        have hall : ([3, 3, 3, 23].all fun u => !Tryd.prog.wantsStandIn u) = true := by kernel_rfl
        exact (show Tryd.prog.wantsStandIn t = false by simpa using List.all_eq_true.1 hall t hm)⟩)
    (by kernel_rfl)
#print axioms proved
end Go.Proofs.YtkbkikbcpllknabDoor.walkLarge
