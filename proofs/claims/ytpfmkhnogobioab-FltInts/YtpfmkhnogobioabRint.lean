/- The document's answers for flt.ToInt and flt.FromInt, by the fields: they say what the plain functions say. -/
import Derived.Test.YtpfmkhnogobioabToI2
import Derived.Test.YtpfmkhnogobioabMath6
import Derived.Laws.ShiftsVar
namespace Go.Proofs.Ytpfmkhnogobioab
open Go.ChangeShapes Go.WideShapes Go.ChangeAt Go.RowKit
open FltM
set_option linter.unusedSimpArgs false
set_option linter.unusedVariables false

theorem or_52 (M : Int) (m0 : 0 ≤ M) (m1 : M < 4503599627370496) : bits .or .u64 M 4503599627370496 = M + 4503599627370496 := by
  rw [u64_or _ _ (by omega) (by omega) (by omega) (by omega), Nat.or_comm, show (4503599627370496 : Int).toNat = 4503599627370496 from rfl]
  rw [nat_join 52 4503599627370496 M.toNat (by decide +kernel) (by rw [show (2 : Nat) ^ 52 = 4503599627370496 from rfl]; omega)]
  omega
theorem fld_E (x : Int) (h0 : 0 ≤ x) (h1 : x < 18446744073709551616) : IntKind.u64.wrap (x * 2) / 9007199254740992 = ((rg x.toNat / 4503599627370496 : Nat) : Int) := by
  rw [IntKind.wrap_u64]; unfold rg; omega
theorem fld_M (x : Int) (h0 : 0 ≤ x) (h1 : x < 18446744073709551616) : IntKind.u64.wrap (x * 4096) / 4096 = ((rg x.toNat % 4503599627370496 : Nat) : Int) := by
  rw [IntKind.wrap_u64]; unfold rg; omega
theorem wrap_id64 {a : Int} (h0 : -9223372036854775808 ≤ a) (h1 : a < 9223372036854775808) : wrap64 a = a := by unfold wrap64; omega

/-- the fields as letters -/
theorem flds (x : Int) (h0 : 0 ≤ x) (h1 : x < 18446744073709551616) : ∃ E M : Int, E = ((rg x.toNat / 4503599627370496 : Nat) : Int) ∧ M = ((rg x.toNat % 4503599627370496 : Nat) : Int) ∧ (0 ≤ E ∧ E < 2048) ∧ (0 ≤ M ∧ M < 4503599627370496) ∧
    IntKind.u64.wrap (x * 2) / 9007199254740992 = E ∧ IntKind.u64.wrap (x * 4096) / 4096 = M ∧ bits .or .u64 M 4503599627370496 = M + 4503599627370496 := by
  have := rg_lt x.toNat
  refine ⟨_, _, rfl, rfl, by omega, by omega, fld_E x h0 h1, fld_M x h0 h1, or_52 _ (by omega) (by omega)⟩

set_option maxHeartbeats 400000 in
theorem rtoint_any (x : Int) (h0 : 0 ≤ x) (h1 : x < 18446744073709551616) (w : World) :
    Calls Try.prog 17 #[.int .u64 x] w fun e w' => e = .returned (.tuple #[.int .i64 (toI x.toNat), .int .i64 (toE x.toNat)]) ∧ w' = w := by
  obtain ⟨E, M, hE, hM, ⟨eb0, eb⟩, ⟨mb0, mb⟩, fE, fM, ho⟩ := flds x h0 h1
  by_cases c1 : E < 1023
  · have hv : toI x.toNat = 0 ∧ toE x.toNat = 0 := by
      have hz := tmag_no (r := rg x.toNat) (by omega)
      have hh := toI_ok (x := x.toNat) (by omega) (by rw [hz]; cases sg x.toNat <;> simp [sz]) (by rw [hz]; cases sg x.toNat <;> simp [sz])
      rw [hz] at hh
      exact ⟨by rw [hh.1]; cases sg x.toNat <;> rfl, hh.2⟩
    have HV : Hid (toI x.toNat = 0 ∧ toE x.toNat = 0) := hv
    clear hE hM hv fM ho mb mb0
    go_enter Try.func17, Try.ntmps17
    go_wp2
    go_ret2
    exact ⟨ret2i HV.out.1.symm HV.out.2.symm, rfl⟩
  by_cases c2 : 1086 < E
  · have hv : toI x.toNat = 0 ∧ toE x.toNat = 1 := by
      apply toI_no
      rintro ⟨k1, k2, k3⟩
      have := tmag_gt (r := rg x.toNat) (by omega) k1
      cases hs : sg x.toNat
      · rw [hs, sz_pos] at k3; omega
      · rw [hs, sz_min] at k2; omega
    have HV : Hid (toI x.toNat = 0 ∧ toE x.toNat = 1) := hv
    clear hE hM hv fM ho mb mb0
    go_enter Try.func17, Try.ntmps17
    go_wp2
    go_ret2
    exact ⟨ret2i HV.out.1.symm HV.out.2.symm, rfl⟩
  by_cases c3 : E = 1086
  · by_cases cx : x = 14114281232179134464
    · have hv : toI x.toNat = -9223372036854775808 ∧ toE x.toNat = 0 := by
        subst cx
        have hr : rg (14114281232179134464 : Int).toNat = 4890909195324358656 := by decide +kernel
        have hs : sg (14114281232179134464 : Int).toNat = true := by decide +kernel
        have ht : tmag 4890909195324358656 = 9223372036854775808 := by unfold tmag; rw [val_63, Nat.mul_div_cancel _ pE]
        have hh := toI_ok (x := (14114281232179134464 : Int).toNat) (by rw [hr]; omega) (by rw [hr, hs, ht, sz_min]; omega) (by rw [hr, hs, ht, sz_min]; omega)
        rw [hr, hs, ht, sz_min] at hh
        exact ⟨by rw [hh.1]; rfl, hh.2⟩
      have HV : Hid (toI x.toNat = -9223372036854775808 ∧ toE x.toNat = 0) := hv
      subst c3
      have bx : (x != 14114281232179134464) = false := by rw [cx]; rfl
      clear hE hM hv fM ho mb mb0 cx c1 c2
      go_enter Try.func17, Try.ntmps17
      go_wp2
      go_ret2
      exact ⟨ret2i HV.out.1.symm HV.out.2.symm, rfl⟩
    · have hv : toI x.toNat = 0 ∧ toE x.toNat = 1 := by
        apply toI_no
        rintro ⟨k1, k2, k3⟩
        cases hs : sg x.toNat
        · rw [hs, sz_pos] at k3
          have := tmag_ge (r := rg x.toNat) (by omega)
          omega
        · rw [hs, sz_min] at k2
          have hne : rg x.toNat ≠ 4890909195324358656 := by
            intro k
            have hw := word_self (x := x.toNat) (by omega)
            rw [k, hs] at hw
            have : Ieee.double.word true 4890909195324358656 = 14114281232179134464 := by decide +kernel
            omega
          have := tmag_gt (r := rg x.toNat) (by omega) k1
          omega
      have HV : Hid (toI x.toNat = 0 ∧ toE x.toNat = 1) := hv
      subst c3
      have bx : (x != 14114281232179134464) = true := bne_iff_ne.2 cx
      clear hE hM hv fM ho mb mb0 cx c1 c2
      go_enter Try.func17, Try.ntmps17
      go_wp2
      go_ret2
      exact ⟨ret2i HV.out.1.symm HV.out.2.symm, rfl⟩
  have b86 : (E == 1086) = false := beq_eq_false_iff_ne.2 (by omega)
  by_cases c4 : 1075 ≤ E
  · have ht := tmag_hi (r := rg x.toNat) (by omega)
    have hsm := small_shift (m := 4503599627370496 + rg x.toNat % 4503599627370496) (k := rg x.toNat / 4503599627370496 - 1075) (by omega) (by omega)
    have hsp : (M + 4503599627370496) * 2 ^ (E - 1023 - 52).toNat = ((tmag (rg x.toNat) : Nat) : Int) := by
      rw [ht, show (E - 1023 - 52).toNat = rg x.toNat / 4503599627370496 - 1075 by omega, hM]
      rw [Int.natCast_mul, Int.natCast_add, Int.natCast_pow, Int.add_comm]; rfl
    rw [← ht] at hsm
    by_cases hs : x / 9223372036854775808 = 1
    · have hv := toI_ok (x := x.toNat) (by omega) (by rw [sg_yes h0 h1 hs, sz_min]; omega) (by rw [sg_yes h0 h1 hs, sz_min]; omega)
      rw [sg_yes h0 h1 hs, sz_min] at hv
      obtain ⟨T, hT⟩ : ∃ T : Int, ((tmag (rg x.toNat) : Nat) : Int) = T := ⟨_, rfl⟩
      have t0 : 0 ≤ T := by omega
      have t1 : T < 9223372036854775808 := by omega
      rw [hT] at hv hsp
      have HV : Hid (toI x.toNat = -T ∧ toE x.toNat = 0) := hv
      have bs : (x / 9223372036854775808 == 1) = true := beq_iff_eq.2 hs
      have w1 : IntKind.u64.wrap T = T := by rw [IntKind.wrap_u64]; omega
      have w2 : wrap64 T = T := wrap_id64 (by omega) (by omega)
      have w3 : wrap64 (-T) = -T := wrap_id64 (by omega) (by omega)
      clear hE hM hv ht hs hsm hT
      go_enter Try.func17, Try.ntmps17
      go_wp2
      go_ret2
      exact ⟨ret2i HV.out.1.symm HV.out.2.symm, rfl⟩
    · have hv := toI_ok (x := x.toNat) (by omega) (by rw [sg_not h0 h1 hs, sz_pos]; omega) (by rw [sg_not h0 h1 hs, sz_pos]; omega)
      rw [sg_not h0 h1 hs, sz_pos] at hv
      obtain ⟨T, hT⟩ : ∃ T : Int, ((tmag (rg x.toNat) : Nat) : Int) = T := ⟨_, rfl⟩
      have t0 : 0 ≤ T := by omega
      have t1 : T < 9223372036854775808 := by omega
      rw [hT] at hv hsp
      have HV : Hid (toI x.toNat = T ∧ toE x.toNat = 0) := hv
      have bs : (x / 9223372036854775808 == 1) = false := beq_eq_false_iff_ne.2 hs
      have w1 : IntKind.u64.wrap T = T := by rw [IntKind.wrap_u64]; omega
      have w2 : wrap64 T = T := wrap_id64 (by omega) (by omega)
      clear hE hM hv ht hs hsm hT
      go_enter Try.func17, Try.ntmps17
      go_wp2
      go_ret2
      exact ⟨ret2i HV.out.1.symm HV.out.2.symm, rfl⟩
  · have ht := tmag_lo (r := rg x.toNat) (by omega) (by omega)
    have hsm : tmag (rg x.toNat) ≤ 4503599627370496 + rg x.toNat % 4503599627370496 := by rw [ht]; exact Nat.div_le_self _ _
    have hsp : (M + 4503599627370496) / 2 ^ (1075 - E).toNat = ((tmag (rg x.toNat) : Nat) : Int) := by
      rw [ht, show (1075 - E).toNat = 1075 - rg x.toNat / 4503599627370496 by omega, hM]
      rw [Int.natCast_ediv, Int.natCast_add, Int.natCast_pow, Int.add_comm]; rfl
    by_cases hs : x / 9223372036854775808 = 1
    · have hv := toI_ok (x := x.toNat) (by omega) (by rw [sg_yes h0 h1 hs, sz_min]; omega) (by rw [sg_yes h0 h1 hs, sz_min]; omega)
      rw [sg_yes h0 h1 hs, sz_min] at hv
      obtain ⟨T, hT⟩ : ∃ T : Int, ((tmag (rg x.toNat) : Nat) : Int) = T := ⟨_, rfl⟩
      have t0 : 0 ≤ T := by omega
      have t1 : T < 9223372036854775808 := by omega
      rw [hT] at hv hsp
      have HV : Hid (toI x.toNat = -T ∧ toE x.toNat = 0) := hv
      have bs : (x / 9223372036854775808 == 1) = true := beq_iff_eq.2 hs
      have w2 : wrap64 T = T := wrap_id64 (by omega) (by omega)
      have w3 : wrap64 (-T) = -T := wrap_id64 (by omega) (by omega)
      clear hE hM hv ht hs hsm hT
      go_enter Try.func17, Try.ntmps17
      go_wp2
      go_ret2
      exact ⟨ret2i HV.out.1.symm HV.out.2.symm, rfl⟩
    · have hv := toI_ok (x := x.toNat) (by omega) (by rw [sg_not h0 h1 hs, sz_pos]; omega) (by rw [sg_not h0 h1 hs, sz_pos]; omega)
      rw [sg_not h0 h1 hs, sz_pos] at hv
      obtain ⟨T, hT⟩ : ∃ T : Int, ((tmag (rg x.toNat) : Nat) : Int) = T := ⟨_, rfl⟩
      have t0 : 0 ≤ T := by omega
      have t1 : T < 9223372036854775808 := by omega
      rw [hT] at hv hsp
      have HV : Hid (toI x.toNat = T ∧ toE x.toNat = 0) := hv
      have bs : (x / 9223372036854775808 == 1) = false := beq_eq_false_iff_ne.2 hs
      have w2 : wrap64 T = T := wrap_id64 (by omega) (by omega)
      clear hE hM hv ht hs hsm hT
      go_enter Try.func17, Try.ntmps17
      go_wp2
      go_ret2
      exact ⟨ret2i HV.out.1.symm HV.out.2.symm, rfl⟩
end Go.Proofs.Ytpfmkhnogobioab
