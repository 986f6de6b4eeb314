/- For any ranges and any calls: behind each call just the blocks are free and given that the document says, and each call answers as it says; of at most 70 ranges below frame 6000, any 30 calls; no condition. -/
import Derived.Test.YtpjejjonkdhelaaRows
import Derived.ProofKit
import Derived.OpenShut
import Derived.Carry
import Derived.Test.YtpjejjonkdhelaaCJ
import Derived.Laws.ShiftsVar
namespace Go.Proofs.Ytpjejjonkdhelaa.buddyPlays
open Go.ChangeShapes Go.WideShapes Go.ChangeAt Go.RowKit Go.Maps
set_option linter.unusedSimpArgs false
set_option linter.unusedVariables false

set_option maxRecDepth 8000 in
set_option maxHeartbeats 16000000 in
theorem walk (p0 : Option Addr) (n0 c0 : Nat) (F0 : Nat → Int × Int) (m0 : n0 ≤ maxLen) (l0 : n0 ≤ c0) (p1 : Option Addr) (n1 c1 : Nat) (A1 : Nat → Int × Int) (m1 : n1 ≤ maxLen) (l1 : n1 ≤ c1) (w : World) (H0 : IsRgs w p0 n0 F0) (H1 : IsActs w p1 n1 A1) :
    Calls Try.prog 3 #[.slice p0 n0 c0, .slice p1 n1 c1] w fun e w' => e = .returned (.bool true) ∧ Below w.heap.size w w' := by
  have AWH : Hid (∀ W : World, Calls Try.prog 12 #[] W fun e w' => e = .returned (.bool true) ∧ Below W.heap.size W w') := fun W => awake_any W
  obtain ⟨m, hm⟩ : ∃ m, m = min n0 70 := ⟨_, rfl⟩
  have FW : Hid (Calls Try.prog 9 #[.slice p0 n0 c0, .int .i64 70] w fun e w' => ∃ g cap, e = .returned (.slice (some ⟨g, 0, none⟩) m cap) ∧ w.heap.size ≤ g ∧ Rgs w' g m F0 ∧ Below w.heap.size w w') := few_any p0 n0 c0 F0 m hm w H0 l0 m0
  have m70 : m ≤ 70 := by omega
  have HA : Hid (IsActs w p1 n1 A1) := H1
  have mm : (n1 : Int) ≤ 9223372036854775807 := by have : maxLen ≤ 9223372036854775807 := by decide +kernel
                                                   omega
  clear H0 l0 m0 hm H1 m1 l1
  go_enter Try.func3, Try.ntmps3
  go_wp2_with fail
  refine Calls.mono FW.out ?_
  rintro e w1 ⟨g, cap, rfl, hg, hR, hb⟩
  have HR : Hid (Rgs w1 g m F0) := hR
  have B1 : Hid (Below w.heap.size w w1) := hb
  clear hg hR hb FW
  by_cases c64 : 64 < m
  · -- too many
    have NC : Hid (Calls Try.prog 10 #[.slice (some ⟨g, 0, none⟩) m cap] w1 fun e w' => e = .returned (.tuple #[.pointer none, .int .i64 4]) ∧ Below w1.heap.size w1 w') := by
      refine (new_big g m cap c64 w1).mono ?_
      rintro e w' ⟨he, rfl⟩
      exact ⟨he, Below.refl _ _⟩
    go_wp2_with fail
    refine Calls.mono NC.out ?_
    rintro e w2 ⟨rfl, hb2⟩
    have B2 : Hid (Below w1.heap.size w1 w2) := hb2
    have CH : Hid (Calls Try.prog 11 #[.slice (some ⟨g, 0, none⟩) m cap] w2 fun e w' => e = .returned (.int .i64 4) ∧ Below w2.heap.size w2 w') := rchk_big g m cap c64 w2
    clear hb2 NC
    go_wp2_with fail
    refine Calls.mono CH.out ?_
    rintro e w3 ⟨rfl, hb3⟩
    have B3 : Hid (Below w1.heap.size w1 w3) := B2.out.trans (hb3.mono B2.out.size)
    clear hb3 CH
    go_wp2_with fail
    refine Calls.mono (AWH.out _) ?_
    rintro e w4 ⟨rfl, hb4⟩
    have B4 : Hid (Below w.heap.size w w4) := B1.out.trans ((B3.out.trans (hb4.mono B3.out.size)).mono B1.out.size)
    clear hb4
    go_wp2_with fail
    go_ret
    exact ⟨rfl, B4.out⟩

  by_cases fo : Form F0 m
  rotate_left
  · -- not in form
    have NC : Hid (Calls Try.prog 10 #[.slice (some ⟨g, 0, none⟩) m cap] w1 fun e w' => e = .returned (.tuple #[.pointer none, .int .i64 3]) ∧ Below w1.heap.size w1 w') := by
      exact new_form g m cap (by omega) F0 w1 HR.out fo
    go_wp2_with fail
    refine Calls.mono NC.out ?_
    rintro e w2 ⟨rfl, hb2⟩
    have B2 : Hid (Below w1.heap.size w1 w2) := hb2
    have CH : Hid (Calls Try.prog 11 #[.slice (some ⟨g, 0, none⟩) m cap] w2 fun e w' => e = .returned (.int .i64 3) ∧ Below w2.heap.size w2 w') := rchk_any g m cap F0 3 ⟨fun h => absurd h fo, fun _ => rfl⟩ (by omega) w2 (HR.out.below hb2)
    clear hb2 NC
    go_wp2_with fail
    refine Calls.mono CH.out ?_
    rintro e w3 ⟨rfl, hb3⟩
    have B3 : Hid (Below w1.heap.size w1 w3) := B2.out.trans (hb3.mono B2.out.size)
    clear hb3 CH
    go_wp2_with fail
    refine Calls.mono (AWH.out _) ?_
    rintro e w4 ⟨rfl, hb4⟩
    have B4 : Hid (Below w.heap.size w w4) := B1.out.trans ((B3.out.trans (hb4.mono B3.out.size)).mono B1.out.size)
    clear hb4
    go_wp2_with fail
    go_ret
    exact ⟨rfl, B4.out⟩

  have NC : Hid (Calls Try.prog 10 #[.slice (some ⟨g, 0, none⟩) m cap] w1 fun e w' => ∃ b, e = .returned (.tuple #[.pointer (some ⟨b, 0, none⟩), .int .i64 0]) ∧ Bu (fun j => j < w1.heap.size) w' b (endAt F0 m).toNat (RU F0 m) noneF ∧ Below w1.heap.size w1 w') := new_ok g m cap (by omega) F0 w1 HR.out fo
  have FO : Hid (Form F0 m) := fo
  clear fo
  go_wp2_with fail
  refine Calls.mono NC.out ?_
  rintro e w2 ⟨b, rfl, hB, hb2⟩
  have HB2 : Hid (Bu (fun j => j < w1.heap.size) w2 b (endAt F0 m).toNat (RU F0 m) noneF) := hB
  have B2 : Hid (Below w1.heap.size w1 w2) := hb2
  have CH : Hid (Calls Try.prog 11 #[.slice (some ⟨g, 0, none⟩) m cap] w2 fun e w' => e = .returned (.int .i64 0) ∧ Below w2.heap.size w2 w') := rchk_any g m cap F0 0 ⟨fun _ => rfl, fun h => absurd FO.out h⟩ (by omega) w2 (HR.out.below hb2)
  clear hB hb2 NC
  go_wp2_with fail
  refine Calls.mono CH.out ?_
  rintro e w3 ⟨rfl, hb3⟩
  have HB3 : Hid (Bu (fun j => j < w1.heap.size) w3 b (endAt F0 m).toNat (RU F0 m) noneF) := HB2.out.below hb3
  have B3 : Hid (Below w1.heap.size w1 w3) := B2.out.trans (hb3.mono B2.out.size)
  clear hb3 CH HB2 B2
  go_wp2_with fail
  refine Calls.mono (AWH.out _) ?_
  rintro e w4 ⟨rfl, hb4⟩
  have HB4 : Hid (Bu (fun j => j < w1.heap.size) w4 b (endAt F0 m).toNat (RU F0 m) noneF) := HB3.out.below hb4
  have B4 : Hid (Below w1.heap.size w1 w4) := B3.out.trans (hb4.mono B3.out.size)
  clear hb4 HB3 B3
  by_cases lo : ∀ i, i < m → (F0 i).2 ≤ 6000
  rotate_left
  · have LC : Hid (Calls Try.prog 13 #[.slice (some ⟨g, 0, none⟩) m cap, .int .i64 6000] w4 fun e w' => e = .returned (.bool false) ∧ Below w4.heap.size w4 w') := low_any' g m cap F0 6000 false ⟨(fun h => by cases h), fun h => absurd h lo⟩ (by omega) w4 (HR.out.below B4.out)
    clear lo
    go_wp2_with fail
    refine Calls.mono LC.out ?_
    rintro e w5 ⟨rfl, hb5⟩
    have B5 : Hid (Below w.heap.size w w5) := B1.out.trans ((B4.out.trans (hb5.mono B4.out.size)).mono B1.out.size)
    clear hb5
    go_wp2_with fail
    go_ret
    exact ⟨rfl, B5.out⟩
  have LC : Hid (Calls Try.prog 13 #[.slice (some ⟨g, 0, none⟩) m cap, .int .i64 6000] w4 fun e w' => e = .returned (.bool true) ∧ Below w4.heap.size w4 w') := low_any' g m cap F0 6000 true ⟨fun _ => lo, fun _ => rfl⟩ (by omega) w4 (HR.out.below B4.out)
  have HLO : Hid (∀ i, i < m → (F0 i).2 ≤ 6000) := lo
  have LF : Hid (∀ x, (RU F0 m) x → x < 6000) := fun x hx => by
    obtain ⟨j, h1, h2, h3⟩ := hx
    have := lo j h1
    omega
  have EN : Hid ((endAt F0 m).toNat ≤ 6000) := by
    show _ ≤ _
    cases m with
    | zero => exact Nat.zero_le _
    | succ m => have := lo m (by omega); show (F0 m).2.toNat ≤ 6000; omega
  clear lo
  go_wp2_with fail
  refine Calls.mono LC.out ?_
  rintro e w5 ⟨rfl, hb5⟩
  have HB5 : Hid (Bu (fun j => j < w1.heap.size) w5 b 6000 (RU F0 m) noneF) := (HB4.out.below hb5).mono EN.out
  have B5 : Hid (Below w1.heap.size w1 w5) := B4.out.trans (hb5.mono B4.out.size)
  have RN : Hid _ := rnew_any g m cap F0 (by omega) FO.out HLO.out w5 (HR.out.below (B4.out.trans (hb5.mono B4.out.size)))
  clear hb5 HB4 B4 LC
  go_wp2_with fail
  refine Calls.mono RN.out ?_
  rintro e w6 ⟨fb, nn, rfl, hSn, lfb, ⟨en, hen⟩, nn9, hAn, hb6⟩
  have NA : Hid (∀ i, (RU F0 m) i → i < nn) := hAn
  have HEN : Hid (nn = en * 1024) := hen
  obtain ⟨sx, hsx⟩ : ∃ sx, w6.heap.size = sx := ⟨_, rfl⟩
  have b7 : Below w6.heap.size w6 (w6.alloc (.cells #[.slice (some ⟨fb, 0, none⟩) nn nn, .slice none 0 0] 35)) := Go.Joins.below_alloc1 _ _
  have J0 : Hid (∃ (Z F : Nat → Prop) (G : Int → Option Int) (pg : Option Addr) (ll cg : Nat) (L : List (Int × Int)), Pg w1 (w6.alloc (.cells #[.slice (some ⟨fb, 0, none⟩) nn nn, .slice none 0 0] 35)) Z b (6000 + 20 * 0) F G (RU F0 m) ∧ Rf (w6.alloc (.cells #[.slice (some ⟨fb, 0, none⟩) nn nn, .slice none 0 0] 35)) Z fb nn sx F G pg ll cg L ∧ (Z fb ∧ Z sx) ∧ ll ≤ 0) := by
    have q1 : Pg w1 w5 (fun j => j < w1.heap.size) b 6000 (RU F0 m) noneF (RU F0 m) := ⟨HB5.out, St.start (fun x hx => Nat.lt_trans (LF.out x hx) (by decide)), fun j h => h, B5.out⟩
    have q2 := q1.next (Kf.below (S := fun _ => False) hb6) (fun j h => h.elim)
    have q3 := q2.next (Kf.below (S := fun _ => False) b7) (fun j h => h.elim)
    have z7 := World.size_alloc w6 (.cells #[.slice (some ⟨fb, 0, none⟩) nn nn, .slice none 0 0] 35)
    have lf := hSn.lt
    refine ⟨_, _, _, none, 0, 0, [], q3, ⟨hSn.block (b7.block fb lf), ?_, ⟨none, 0, rfl, fun i hi => absurd hi (Nat.not_lt_zero _)⟩, ⟨fun a o => ⟨fun h => absurd h List.not_mem_nil, fun h => by cases h⟩, List.Pairwise.nil⟩, rfl, by omega⟩, ⟨Or.inl (Or.inr ⟨lfb, lf⟩), Or.inr ⟨by omega, by omega⟩⟩, Nat.le_refl _⟩
    rw [← hsx]; exact own1 w6 _
  have FXS : Hid (w1.heap.size ≤ fb ∧ w1.heap.size ≤ sx ∧ fb < sx) := by
    have h1 := B5.out.size
    have h2 := hSn.lt
    exact ⟨by omega, by omega, by omega⟩
  clear hSn lfb hen hAn hb6 b7 RN HB5 B5
  go_upto_region 11 with fail
  generalize w6.alloc (.cells #[.slice (some ⟨fb, 0, none⟩) nn nn, .slice none 0 0] 35) = w7 at *
  clear hsx
  go_wp2_with fail
  go_loopw [9, 10, 11, 12, 13, 14, 15, 16, 17, 18, 19] (fun vi _ _ _ _ _ _ _ _ _ _ W => ∃ k : Nat, k ≤ n1 ∧ k ≤ 30 ∧ vi = .int .i64 k ∧ Hid (∃ (Z F : Nat → Prop) (G : Int → Option Int) (pg : Option Addr) (ll cg : Nat) (L : List (Int × Int)), Pg w1 W Z b (6000 + 20 * k) F G (RU F0 m) ∧ Rf W Z fb nn sx F G pg ll cg L ∧ (Z fb ∧ Z sx) ∧ ll ≤ k)) (fun vi _ _ _ _ _ _ _ _ _ _ _ => 30 - (Go.RowKit.intOf vi).toNat)
  case atStart => exact ⟨0, by omega, by omega, rfl, J0⟩
  case round =>
    clear J0
    obtain ⟨k, hk, hk6, rfl, hI⟩ := hrel
    obtain ⟨Z, F, G, pg, ll, cg, L, hP, hRf, hZ, hll⟩ := hI.out
    clear hI
    by_cases hlt : k < n1 ∧ k < 30
    rotate_left
    · have SHC : Hid (Calls Try.prog 25 #[.pointer (some ⟨b, 0, none⟩), .agg #[.slice (some ⟨fb, 0, none⟩) nn nn, .slice pg ll cg]] wr fun e w' => e = .returned (.bool true) ∧ Below wr.heap.size wr w') := shows_any Z b _ fb nn nn (sx + 1) en pg ll cg L hRf.len (by omega) F (RU F0 m) G (fun i hi => NA.out i (hP.st.sub i hi)) HEN.out nn9 (by omega) hRf.lg hP.st wr hP.bu hRf.sn hRf.lz.lb
      have sc0 : wr.cell? ⟨sx, 0, none⟩ = some (.slice (some ⟨fb, 0, none⟩) nn nn) := hRf.bx.cell 0
      have sc1 : wr.cell? ⟨sx, 1, none⟩ = some (.slice pg ll cg) := hRf.bx.cell 1
      have lsx : sx < wr.heap.size := blk_lt hRf.bx
      have HW : Hid (Below w.heap.size w wr) := B1.out.trans (hP.bl.mono B1.out.size)
      clear hP hRf hZ hll
      by_cases cn : k < n1
      · obtain rfl : k = 30 := by omega
        have hd : decide ((30 : Int) < (n1 : Int)) = true := by simp; omega
        have hd2 : decide (((30 : Nat) : Int) < (n1 : Int)) = true := by simp; omega
        clear hlt
        go_wp2_with fail
        refine Calls.mono SHC.out ?_
        rintro e u ⟨rfl, hb⟩
        have HU : Hid (Below w.heap.size w u) := HW.out.trans (hb.mono HW.out.size)
        clear hb
        go_wp2_with fail
        go_ret
        exact ⟨rfl, HU.out⟩
      · obtain rfl : k = n1 := by omega
        have hd : decide ((k : Int) < (k : Int)) = false := by simp
        clear hlt
        go_wp2_with fail
        refine Calls.mono SHC.out ?_
        rintro e u ⟨rfl, hb⟩
        have HU : Hid (Below w.heap.size w u) := HW.out.trans (hb.mono HW.out.size)
        clear hb
        go_wp2_with fail
        go_ret
        exact ⟨rfl, HU.out⟩
    have hd : decide ((k : Int) < (n1 : Int)) = true := by simp; omega
    have hd2 : decide ((k : Int) < 30) = true := by simp; omega
    have hd0 : decide ((k : Int) < 0) = false := by simp
    obtain ⟨pb, po, rfl, lpb, ca, cb, wa, wb⟩ := HA.out k hlt.1
    obtain ⟨kd, hkd⟩ : ∃ x, x = (A1 k).1 := ⟨_, rfl⟩
    obtain ⟨ord, hord⟩ : ∃ x, x = (A1 k).2 := ⟨_, rfl⟩
    rw [← hkd] at ca wa
    rw [← hord] at cb wb
    have bwr : Below w.heap.size w wr := B1.out.trans (hP.bl.mono B1.out.size)
    have qa : wr.cell? ⟨pb, po + k * 2, none⟩ = some (.int .i64 kd) := by rw [World.cell?_of_block (w := w) (a := ⟨pb, po + k * 2, none⟩) (bwr.block pb lpb)]; exact ca
    have qb : wr.cell? ⟨pb, po + k * 2 + 1, none⟩ = some (.int .i64 ord) := by rw [World.cell?_of_block (w := w) (a := ⟨pb, po + k * 2 + 1, none⟩) (bwr.block pb lpb)]; exact cb
    have lpb' : pb < wr.heap.size := Nat.lt_of_lt_of_le lpb bwr.size
    have WB : Hid ((Lit.int .i64 ord).wf = true) := wb
    have bX : Below wr.heap.size wr (wr.alloc (.cells #[.int .i64 kd, .int .i64 ord] 38)) := Go.Joins.below_alloc1 _ _
    have P1 := hP.next (Kf.below (S := fun _ => False) bX) (fun j h => h.elim)
    have zX := World.size_alloc wr (.cells #[.int .i64 kd, .int .i64 ord] 38)
    obtain ⟨Z1, hZ1⟩ : ∃ Z1 : Nat → Prop, Z1 = (fun j => Z j ∨ (wr.heap.size ≤ j ∧ j < (wr.alloc (.cells #[.int .i64 kd, .int .i64 ord] 38)).heap.size)) := ⟨_, rfl⟩
    rw [← hZ1] at P1
    obtain ⟨ax, hax⟩ : ∃ ax, wr.heap.size = ax := ⟨_, rfl⟩
    have ZP : Hid (Z1 fb ∧ Z1 sx) := by rw [hZ1]; exact ⟨Or.inl hZ.1, Or.inl hZ.2⟩
    have ZA : Hid (Z1 ax) := by rw [hZ1]; exact Or.inr ⟨by omega, by omega⟩
    have R1 : Rf (wr.alloc (.cells #[.int .i64 kd, .int .i64 ord] 38)) Z1 fb nn sx F G pg ll cg L := (Rf.mono (Z' := Z1) hRf (fun j h => by rw [hZ1]; exact Or.inl h)).kf (Kf.below bX) ZP.out.1 ZP.out.2
    have AXB : Blk (wr.alloc (.cells #[.int .i64 kd, .int .i64 ord] 38)) ax [.int .i64 kd, .int .i64 ord] 38 := by rw [← hax]; exact own1 wr _
    have FX : Hid (w1.heap.size ≤ fb ∧ w1.heap.size ≤ sx ∧ fb < sx ∧ sx < ax) := by
      have := blk_lt hRf.bx
      exact ⟨FXS.out.1, FXS.out.2.1, FXS.out.2.2, by omega⟩
    have HX : Hid (Pg w1 (wr.alloc (.cells #[.int .i64 kd, .int .i64 ord] 38)) Z1 b (6000 + 20 * k) F G (RU F0 m) ∧ Rf (wr.alloc (.cells #[.int .i64 kd, .int .i64 ord] 38)) Z1 fb nn sx F G pg ll cg L ∧ Blk (wr.alloc (.cells #[.int .i64 kd, .int .i64 ord] 38)) ax [.int .i64 kd, .int .i64 ord] 38) := ⟨P1, R1, AXB⟩
    have LLK : Hid (ll ≤ k) := hll
    clear hP hRf hZ hll ca cb wa wb hkd hord bwr bX P1 zX hZ1 R1 AXB lpb
    go_upto_region 15 with fail
    generalize wr.alloc (.cells #[.int .i64 kd, .int .i64 ord] 38) = X at *
    clear qa qb lpb' hax
    have ac0 : X.cell? ⟨ax, 0, none⟩ = some (.int .i64 kd) := HX.out.2.2.cell 0
    have ac1 : X.cell? ⟨ax, 1, none⟩ = some (.int .i64 ord) := HX.out.2.2.cell 1
    have lax : ax < X.heap.size := blk_lt HX.out.2.2
    have e0' : ∀ q : Int, (q != q) = false := fun q => by simp
    by_cases k1 : kd = 1
    · have e1 : (kd == 1) = true := by simp [k1]
      have TKC : Hid _ := both_take (fb := fb) (sx := sx) (pg := pg) (ll := ll) (cg := cg) (L := L) HX.out.1 HEN.out nn9 NA.out (by have := LLK.out; omega) (by omega) ord
      clear k1
      go_wp2_with fail
      refine Calls.mono TKC.out ?_
      rintro e u ⟨a, c, F', G', rfl, hPu, hku, hRu⟩
      have HPU : Hid (Pg w1 u Z1 b (6000 + 20 * k + 20) F' G' (RU F0 m)) := hPu
      have HRU : Hid (Rf u Z1 fb nn sx F G pg ll cg L ∧ Blk u ax [.int .i64 kd, .int .i64 ord] 38) := ⟨HX.out.2.1.kf hku ZP.out.1 ZP.out.2, HX.out.2.2.kf hku (fun h => h ZA.out)⟩
      have RTC : Hid _ := hRu u ZP.out.1 HRU.out.1
      have su0 : u.cell? ⟨sx, 0, none⟩ = some (.slice (some ⟨fb, 0, none⟩) nn nn) := HRU.out.1.bx.cell 0
      have su1 : u.cell? ⟨sx, 1, none⟩ = some (.slice pg ll cg) := HRU.out.1.bx.cell 1
      have lsu : sx < u.heap.size := blk_lt HRU.out.1.bx
      have au1 : u.cell? ⟨ax, 1, none⟩ = some (.int .i64 ord) := HRU.out.2.cell 1
      have lau : ax < u.heap.size := blk_lt HRU.out.2
      have ea : (a != a) = false := by simp
      have ec : (c != c) = false := by simp
      clear hPu hku hRu TKC HX ac0 ac1 lax
      go_wp2_with fail
      refine Calls.mono RTC.out ?_
      rintro e v ⟨pg', ll', cg', L', rfl, hAns⟩
      obtain ⟨a1, a2, a3, a4, a5, a6⟩ := hAns
      have bv : Blk v sx [.slice (some ⟨fb, 0, none⟩) nn nn, .slice pg ll cg] 35 := HRU.out.1.bx.kf a6 (by have := FX.out; omega)
      have av : Blk v ax [.int .i64 kd, .int .i64 ord] 38 := HRU.out.2.kf a6 (by have := FX.out; omega)
      have sv0 : v.cell? ⟨sx, 0, none⟩ = some (.slice (some ⟨fb, 0, none⟩) nn nn) := bv.cell 0
      have sv1 : v.cell? ⟨sx, 1, none⟩ = some (.slice pg ll cg) := bv.cell 1
      have fv0 : v.frozen? ⟨sx, 0, none⟩ = false := bv.free 0
      have fv1 : v.frozen? ⟨sx, 1, none⟩ = false := bv.free 1
      have lsv : sx < v.heap.size := blk_lt bv
      have k2 : Kf (fun j => j = sx) v ((v.setCell ⟨sx, 0, none⟩ (.slice (some ⟨fb, 0, none⟩) nn nn)).setCell ⟨sx, 1, none⟩ (.slice pg' ll' cg')) := (Kf.set (S := fun j => j = sx) v sx 0 _ rfl).trans (Kf.set (S := fun j => j = sx) _ sx 1 _ rfl)
      have b3 : Below ((v.setCell ⟨sx, 0, none⟩ (.slice (some ⟨fb, 0, none⟩) nn nn)).setCell ⟨sx, 1, none⟩ (.slice pg' ll' cg')).heap.size ((v.setCell ⟨sx, 0, none⟩ (.slice (some ⟨fb, 0, none⟩) nn nn)).setCell ⟨sx, 1, none⟩ (.slice pg' ll' cg')) (((v.setCell ⟨sx, 0, none⟩ (.slice (some ⟨fb, 0, none⟩) nn nn)).setCell ⟨sx, 1, none⟩ (.slice pg' ll' cg')).alloc (.cells #[.slice (some ⟨fb, 0, none⟩) nn nn, .slice pg' ll' cg'] 35)) := Go.Joins.below_alloc1 _ _
      have P2 := HPU.out.next a6 (fun j h => by have h' : j = fb := h; subst h'; exact ⟨ZP.out.1, FX.out.1⟩)
      have P3 := P2.next k2 (fun j h => by have h' : j = sx := h; subst h'; exact ⟨Or.inl ZP.out.2, FX.out.2.1⟩)
      have P4 := P3.next (Kf.below (S := fun _ => False) b3) (fun j h => h.elim)
      have bs2 : Blk ((v.setCell ⟨sx, 0, none⟩ (.slice (some ⟨fb, 0, none⟩) nn nn)).setCell ⟨sx, 1, none⟩ (.slice pg' ll' cg')) sx [.slice (some ⟨fb, 0, none⟩) nn nn, .slice pg' ll' cg'] 35 := (show Blk (v.setCell ⟨sx, 0, none⟩ (.slice (some ⟨fb, 0, none⟩) nn nn)) sx [.slice (some ⟨fb, 0, none⟩) nn nn, .slice pg ll cg] 35 from bv.set 0 _).set 1 _
      have A4 : Blk (((v.setCell ⟨sx, 0, none⟩ (.slice (some ⟨fb, 0, none⟩) nn nn)).setCell ⟨sx, 1, none⟩ (.slice pg' ll' cg')).alloc (.cells #[.slice (some ⟨fb, 0, none⟩) nn nn, .slice pg' ll' cg'] 35)) ax [.int .i64 kd, .int .i64 ord] 38 := (av.kf k2 (by have := FX.out; omega)).below b3
      obtain ⟨Z4, hZ4⟩ : ∃ Z4 : Nat → Prop, Z4 = (fun j => ((Z1 j ∨ (u.heap.size ≤ j ∧ j < v.heap.size)) ∨ (v.heap.size ≤ j ∧ j < ((v.setCell ⟨sx, 0, none⟩ (.slice (some ⟨fb, 0, none⟩) nn nn)).setCell ⟨sx, 1, none⟩ (.slice pg' ll' cg')).heap.size)) ∨ (((v.setCell ⟨sx, 0, none⟩ (.slice (some ⟨fb, 0, none⟩) nn nn)).setCell ⟨sx, 1, none⟩ (.slice pg' ll' cg')).heap.size ≤ j ∧ j < (((v.setCell ⟨sx, 0, none⟩ (.slice (some ⟨fb, 0, none⟩) nn nn)).setCell ⟨sx, 1, none⟩ (.slice pg' ll' cg')).alloc (.cells #[.slice (some ⟨fb, 0, none⟩) nn nn, .slice pg' ll' cg'] 35)).heap.size)) := ⟨_, rfl⟩
      have P4 : Pg w1 (((v.setCell ⟨sx, 0, none⟩ (.slice (some ⟨fb, 0, none⟩) nn nn)).setCell ⟨sx, 1, none⟩ (.slice pg' ll' cg')).alloc (.cells #[.slice (some ⟨fb, 0, none⟩) nn nn, .slice pg' ll' cg'] 35)) Z4 b (6000 + 20 * k + 20) F' G' (RU F0 m) := by rw [hZ4]; exact P4
      have R4 : Rf (((v.setCell ⟨sx, 0, none⟩ (.slice (some ⟨fb, 0, none⟩) nn nn)).setCell ⟨sx, 1, none⟩ (.slice pg' ll' cg')).alloc (.cells #[.slice (some ⟨fb, 0, none⟩) nn nn, .slice pg' ll' cg'] 35)) Z4 fb nn sx F' G' pg' ll' cg' L' := by
        rw [hZ4]
        exact ⟨(a1.block (k2.block fb a1.lt (by have := FX.out; omega))).block (b3.block fb (Nat.lt_of_lt_of_le a1.lt k2.size)), bs2.below b3, ((a2.kf k2 (fun j _ h e => by have h' : j = sx := e; omega)).kf (Kf.below (S := fun _ => False) b3) (fun _ _ _ h => h)).mono (fun j h => Or.inl (Or.inl h)), a3, a4, FX.out.2.2.1⟩
      have Z4P : Hid (Z4 fb ∧ Z4 sx) := by rw [hZ4]; exact ⟨Or.inl (Or.inl (Or.inl ZP.out.1)), Or.inl (Or.inl (Or.inl ZP.out.2))⟩
      have HV0 : Hid (Pg w1 (((v.setCell ⟨sx, 0, none⟩ (.slice (some ⟨fb, 0, none⟩) nn nn)).setCell ⟨sx, 1, none⟩ (.slice pg' ll' cg')).alloc (.cells #[.slice (some ⟨fb, 0, none⟩) nn nn, .slice pg' ll' cg'] 35)) Z4 b (6000 + 20 * (k + 1)) F' G' (RU F0 m) ∧ Rf (((v.setCell ⟨sx, 0, none⟩ (.slice (some ⟨fb, 0, none⟩) nn nn)).setCell ⟨sx, 1, none⟩ (.slice pg' ll' cg')).alloc (.cells #[.slice (some ⟨fb, 0, none⟩) nn nn, .slice pg' ll' cg'] 35)) Z4 fb nn sx F' G' pg' ll' cg' L' ∧ Blk (((v.setCell ⟨sx, 0, none⟩ (.slice (some ⟨fb, 0, none⟩) nn nn)).setCell ⟨sx, 1, none⟩ (.slice pg' ll' cg')).alloc (.cells #[.slice (some ⟨fb, 0, none⟩) nn nn, .slice pg' ll' cg'] 35)) ax [.int .i64 kd, .int .i64 ord] 38) := ⟨P4.mono (by omega), R4, A4⟩
      have LL9 : Hid (ll' ≤ k + 1) := by show ll' ≤ k + 1; have := LLK.out; omega
      clear a1 a2 a3 a4 a5 a6 bv av k2 b3 P2 P3 P4 bs2 R4 A4 hZ4 RTC HRU HPU ZP
      go_upto_region 19 with fail
      generalize (((v.setCell ⟨sx, 0, none⟩ (.slice (some ⟨fb, 0, none⟩) nn nn)).setCell ⟨sx, 1, none⟩ (.slice pg' ll' cg')).alloc (.cells #[.slice (some ⟨fb, 0, none⟩) nn nn, .slice pg' ll' cg'] 35)) = Y at *
      clear sv0 sv1 fv0 fv1 lsv
      go_upto_region 27 with fail
      refine wp_region_noPanic ?_
      refine wp_region_held_drew (S := fun c => (c.cell? ⟨sx, 0, none⟩ = some (.slice (some ⟨fb, 0, none⟩) nn nn) ∧ c.cell? ⟨sx, 1, none⟩ = some (.slice pg' ll' cg')) ∧ c.cell? ⟨ax, 1, none⟩ = some (.int .i64 ord)) (by kernel_rfl) ?_ (fun hHeld => ?_)
      · exact ⟨⟨(HV0.out.2.1.bx).cell 0, (HV0.out.2.1.bx).cell 1⟩, (HV0.out.2.2).cell 1⟩
      have HV1 : Hid (Pg w1 Y.drew Z4 b (6000 + 20 * (k + 1)) F' G' (RU F0 m) ∧ Rf Y.drew Z4 fb nn sx F' G' pg' ll' cg' L' ∧ Blk Y.drew ax [.int .i64 kd, .int .i64 ord] 38) := ⟨⟨HV0.out.1.bu.below (below_drew (Below.refl _ _) : Below Y.heap.size Y Y.drew), HV0.out.1.st, HV0.out.1.zl, HV0.out.1.bl.trans ((below_drew (Below.refl _ _) : Below Y.heap.size Y Y.drew).mono HV0.out.1.bl.size)⟩, HV0.out.2.1.kf (Kf.below (below_drew (Below.refl _ _) : Below Y.heap.size Y Y.drew)) Z4P.out.1 Z4P.out.2, HV0.out.2.2.below (below_drew (Below.refl _ _) : Below Y.heap.size Y Y.drew)⟩
      clear HV0
      generalize Y.drew = U at HV1 hHeld ⊢
      refine wpAnyH_take (i := 0) (oi := ⟨some 110, _, _, _, _, none⟩) (v := ?_) rfl (by kernel_rfl) (by kernel_rfl) (by kernel_rfl) (fun _ _ _ h => h) (Or.inl ⟨by rfl, ?_⟩) (by assumption) ?_
      rotate_left
      · intro w hSw; (try dsimp only at hSw); go_simp; (try with_reducible rfl)
      try simp only [Act.put, List.setIfInBounds_toArray, List.set_cons_zero, List.set_cons_succ]
      refine wpAnyH_take (i := 2) (oi := ⟨some 112, _, _, _, _, none⟩) (v := (.agg #[.slice (some ⟨fb, 0, none⟩) nn nn, .slice pg' ll' cg'])) rfl (by kernel_rfl) (by kernel_rfl) (by kernel_rfl) (fun _ _ _ h => h) (Or.inl ⟨by rfl, ?_⟩) (by assumption) ?_
      · intro w hSw; (try dsimp only at hSw); have q0 : w.cell? ⟨sx, 0, none⟩ = some (.slice (some ⟨fb, 0, none⟩) nn nn) := hSw.1.1; have q1 : w.cell? ⟨sx, 1, none⟩ = some (.slice pg' ll' cg') := hSw.1.2; go_simp; (try simp)
      try simp only [Act.put, List.setIfInBounds_toArray, List.set_cons_zero, List.set_cons_succ]
      refine wpAnyH_ready (rs := [1]) (by kernel_rfl) (by simp) ?_
      refine AllReadyH.cons (o := ⟨some 111, _, _, _, _, none⟩) rfl (fun K hK => ?_) AllReadyH.nil
      go_simp
      go_wp2_with (go_at_call 21; refine Calls.mono (HV1.out.1.bu.free) ?_; rintro e x1 ⟨rfl, rfl⟩)
      clear hHeld
      refine hK.out _ _ ⟨⟨(HV1.out.2.1.bx).cell 0, (HV1.out.2.1.bx).cell 1⟩, (HV1.out.2.2).cell 1⟩ (fun hHeld => ?_)
      clear hK K
      try simp only [Act.put, List.setIfInBounds_toArray, List.set_cons_zero, List.set_cons_succ]
      refine wpAnyH_ready (rs := [3]) (by kernel_rfl) (by simp) ?_
      refine AllReadyH.cons (o := ⟨some 113, _, _, _, _, none⟩) rfl (fun K hK => ?_) AllReadyH.nil
      go_simp
      go_wp2_with (go_at_call 22; refine Calls.mono (rcnt_any fb nn nn (.slice pg' ll' cg') F' (fun i hi => NA.out i (HV1.out.1.st.sub i hi)) (by omega) _ HV1.out.2.1.sn) ?_; rintro e x2 ⟨rfl, hb⟩)
      have HV2 : Hid (Pg w1 x2 Z4 b (6000 + 20 * (k + 1)) F' G' (RU F0 m) ∧ Rf x2 Z4 fb nn sx F' G' pg' ll' cg' L' ∧ Blk x2 ax [.int .i64 kd, .int .i64 ord] 38) := ⟨⟨HV1.out.1.bu.below hb, HV1.out.1.st, HV1.out.1.zl, HV1.out.1.bl.trans (hb.mono HV1.out.1.bl.size)⟩, HV1.out.2.1.kf (Kf.below hb) Z4P.out.1 Z4P.out.2, HV1.out.2.2.below hb⟩
      clear hb hHeld HV1
      refine hK.out _ _ ⟨⟨(HV2.out.2.1.bx).cell 0, (HV2.out.2.1.bx).cell 1⟩, (HV2.out.2.2).cell 1⟩ (fun hHeld => ?_)
      clear hK K
      try simp only [Act.put, List.setIfInBounds_toArray, List.set_cons_zero, List.set_cons_succ]
      refine wpAnyH_take (i := 4) (oi := ⟨some 114, _, _, _, _, none⟩) (v := .bool false) rfl (by kernel_rfl) (by kernel_rfl) (by kernel_rfl) (fun _ _ _ h => h) (Or.inl ⟨by rfl, ?_⟩) (by assumption) ?_
      · intro w hSw; (try dsimp only at hSw); go_simp; (try simp); (try (simp only [IntKind.wrap_i64]; omega))
      try simp only [Act.put, List.setIfInBounds_toArray, List.set_cons_zero, List.set_cons_succ]
      refine wpAnyH_take (i := 5) (oi := ⟨some 115, _, _, _, _, none⟩) (v := ?_) rfl (by kernel_rfl) (by kernel_rfl) (by kernel_rfl) (fun _ _ _ h => h) (Or.inl ⟨by rfl, ?_⟩) (by assumption) ?_
      rotate_left
      · intro w hSw; (try dsimp only at hSw); go_simp; (try with_reducible rfl)
      try simp only [Act.put, List.setIfInBounds_toArray, List.set_cons_zero, List.set_cons_succ]
      refine wpAnyH_take (i := 6) (oi := ⟨some 116, _, _, _, _, some (5, false)⟩) (v := ?_) rfl (by kernel_rfl) (by kernel_rfl) (by kernel_rfl) (fun _ _ _ h => h) (Or.inl ⟨by rfl, ?_⟩) (by assumption) ?_
      rotate_left
      · intro w hSw; (try dsimp only at hSw); go_simp; (try with_reducible rfl)
      try simp only [Act.put, List.setIfInBounds_toArray, List.set_cons_zero, List.set_cons_succ]
      refine wpAnyH_take (i := 7) (oi := ⟨some 117, _, _, _, _, some (5, false)⟩) (v := (.pointer (some ⟨ax, 1, none⟩))) rfl (by kernel_rfl) (by kernel_rfl) (by kernel_rfl) (fun _ _ _ h => h) (Or.inl ⟨by rfl, ?_⟩) (by assumption) ?_
      · intro w hSw; (try dsimp only at hSw); go_simp; (try simp); (try (simp only [IntKind.wrap_i64]; omega))
      try simp only [Act.put, List.setIfInBounds_toArray, List.set_cons_zero, List.set_cons_succ]
      refine wpAnyH_take (i := 8) (oi := ⟨some 118, _, _, _, _, some (5, false)⟩) (v := (.int .i64 ord)) rfl (by kernel_rfl) (by kernel_rfl) (by kernel_rfl) (fun _ _ _ h => h) (Or.inl ⟨by rfl, ?_⟩) (by assumption) ?_
      · intro w hSw; (try dsimp only at hSw); have q0 : w.cell? ⟨ax, 1, none⟩ = some (.int .i64 ord) := hSw.2; go_simp; (try simp)
      try simp only [Act.put, List.setIfInBounds_toArray, List.set_cons_zero, List.set_cons_succ]
      refine wpAnyH_take (i := 10) (oi := ⟨some 120, _, _, _, _, some (5, false)⟩) (v := (.agg #[.slice (some ⟨fb, 0, none⟩) nn nn, .slice pg' ll' cg'])) rfl (by kernel_rfl) (by kernel_rfl) (by kernel_rfl) (fun _ _ _ h => h) (Or.inl ⟨by rfl, ?_⟩) (by assumption) ?_
      · intro w hSw; (try dsimp only at hSw); have q0 : w.cell? ⟨sx, 0, none⟩ = some (.slice (some ⟨fb, 0, none⟩) nn nn) := hSw.1.1; have q1 : w.cell? ⟨sx, 1, none⟩ = some (.slice pg' ll' cg') := hSw.1.2; go_simp; (try simp)
      try simp only [Act.put, List.setIfInBounds_toArray, List.set_cons_zero, List.set_cons_succ]
      refine wpAnyH_take (i := 11) (oi := ⟨some 121, _, _, _, _, some (5, false)⟩) (v := (.pointer (some ⟨ax, 1, none⟩))) rfl (by kernel_rfl) (by kernel_rfl) (by kernel_rfl) (fun _ _ _ h => h) (Or.inl ⟨by rfl, ?_⟩) (by assumption) ?_
      · intro w hSw; (try dsimp only at hSw); go_simp; (try simp); (try (simp only [IntKind.wrap_i64]; omega))
      try simp only [Act.put, List.setIfInBounds_toArray, List.set_cons_zero, List.set_cons_succ]
      refine wpAnyH_take (i := 12) (oi := ⟨some 122, _, _, _, _, some (5, false)⟩) (v := (.int .i64 ord)) rfl (by kernel_rfl) (by kernel_rfl) (by kernel_rfl) (fun _ _ _ h => h) (Or.inl ⟨by rfl, ?_⟩) (by assumption) ?_
      · intro w hSw; (try dsimp only at hSw); have q0 : w.cell? ⟨ax, 1, none⟩ = some (.int .i64 ord) := hSw.2; go_simp; (try simp)
      try simp only [Act.put, List.setIfInBounds_toArray, List.set_cons_zero, List.set_cons_succ]
      refine wpAnyH_ready (rs := [9]) (by kernel_rfl) (by simp) ?_
      refine AllReadyH.cons (o := ⟨some 119, _, _, _, _, some (5, false)⟩) rfl (fun K hK => ?_) AllReadyH.nil
      go_simp
      go_wp2_with (go_at_call 23; refine Calls.mono (HV2.out.1.bu.order WB.out) ?_; rintro e x3 ⟨rfl, rfl⟩)
      clear hHeld
      refine hK.out _ _ ⟨⟨(HV2.out.2.1.bx).cell 0, (HV2.out.2.1.bx).cell 1⟩, (HV2.out.2.2).cell 1⟩ (fun hHeld => ?_)
      clear hK K
      try simp only [Act.put, List.setIfInBounds_toArray, List.set_cons_zero, List.set_cons_succ]
      refine wpAnyH_ready (rs := [13]) (by kernel_rfl) (by simp) ?_
      refine AllReadyH.cons (o := ⟨some 123, _, _, _, _, some (5, false)⟩) rfl (fun K hK => ?_) AllReadyH.nil
      go_simp
      go_wp2_with (go_at_call 24; refine Calls.mono (rorder_any fb nn nn (sx + 1) (.slice pg' ll' cg') L' G' HV2.out.2.1.lg (by have h1 := HV2.out.2.1.len; have h2 := LL9.out; omega) ord _ HV2.out.2.1.lz.lb) ?_; rintro e x4 ⟨rfl, hb⟩)
      have HV3 : Hid (Pg w1 x4 Z4 b (6000 + 20 * (k + 1)) F' G' (RU F0 m) ∧ Rf x4 Z4 fb nn sx F' G' pg' ll' cg' L' ∧ Blk x4 ax [.int .i64 kd, .int .i64 ord] 38) := ⟨⟨HV2.out.1.bu.below hb, HV2.out.1.st, HV2.out.1.zl, HV2.out.1.bl.trans (hb.mono HV2.out.1.bl.size)⟩, HV2.out.2.1.kf (Kf.below hb) Z4P.out.1 Z4P.out.2, HV2.out.2.2.below hb⟩
      clear hb hHeld HV2
      refine hK.out _ _ ⟨⟨(HV3.out.2.1.bx).cell 0, (HV3.out.2.1.bx).cell 1⟩, (HV3.out.2.2).cell 1⟩ (fun hHeld => ?_)
      clear hK K
      try simp only [Act.put, List.setIfInBounds_toArray, List.set_cons_zero, List.set_cons_succ]
      refine wpAnyH_take (i := 14) (oi := ⟨some 124, _, _, _, _, some (5, false)⟩) (v := .bool false) rfl (by kernel_rfl) (by kernel_rfl) (by kernel_rfl) (fun _ _ _ h => h) (Or.inl ⟨by rfl, ?_⟩) (by assumption) ?_
      · intro w hSw; (try dsimp only at hSw); go_simp; (try simp); (try (simp only [IntKind.wrap_i64]; omega))
      try simp only [Act.put, List.setIfInBounds_toArray, List.set_cons_zero, List.set_cons_succ]
      refine wpAnyH_take (i := 15) (oi := ⟨some 125, _, _, _, _, none⟩) (v := ?_) rfl (by kernel_rfl) (by kernel_rfl) (by kernel_rfl) (fun _ _ _ h => h) (Or.inl ⟨by rfl, ?_⟩) (by assumption) ?_
      rotate_left
      · intro w hSw; (try dsimp only at hSw); go_simp; (try with_reducible rfl)
      try simp only [Act.put, List.setIfInBounds_toArray, List.set_cons_zero, List.set_cons_succ]
      clear hHeld
      refine wpAnyH_done (by kernel_rfl) ?_ _
      refine NoPanic.normal ?_
      go_wp2_with fail
      go_roundw
      case rel => exact ⟨k + 1, by omega, by omega, by go_num, ⟨Z4, F', G', pg', ll', cg', L', HV3.out.1, HV3.out.2.1, Z4P.out, LL9.out⟩⟩
      case measure => simp [Go.RowKit.intOf]; omega

    have e1 : (kd == 1) = false := by simp [k1]
    clear k1
    go_upto_region 21 with fail
    refine wp_region_noPanic ?_
    refine wp_region_held_drew (S := fun c => c.cell? ⟨ax, 0, none⟩ = some (.int .i64 kd) ∧ c.cell? ⟨ax, 1, none⟩ = some (.int .i64 ord)) (by kernel_rfl) ?_ (fun hHeld => ?_)
    · exact ⟨ac0, ac1⟩
    have HX1 : Hid (Pg w1 X.drew Z1 b (6000 + 20 * k) F G (RU F0 m) ∧ Rf X.drew Z1 fb nn sx F G pg ll cg L ∧ Blk X.drew ax [.int .i64 kd, .int .i64 ord] 38) := ⟨⟨HX.out.1.bu.below (below_drew (Below.refl _ _) : Below X.heap.size X X.drew), HX.out.1.st, HX.out.1.zl, HX.out.1.bl.trans ((below_drew (Below.refl _ _) : Below X.heap.size X X.drew).mono HX.out.1.bl.size)⟩, HX.out.2.1.kf (Kf.below (below_drew (Below.refl _ _) : Below X.heap.size X X.drew)) ZP.out.1 ZP.out.2, HX.out.2.2.below (below_drew (Below.refl _ _) : Below X.heap.size X X.drew)⟩
    clear HX
    generalize X.drew = U at HX1 hHeld ⊢
    refine wpAnyH_take (i := 0) (oi := ⟨some 93, _, _, _, _, none⟩) (v := ?_) rfl (by kernel_rfl) (by kernel_rfl) (by kernel_rfl) (fun _ _ _ h => h) (Or.inl ⟨by rfl, ?_⟩) (by assumption) ?_
    rotate_left
    · intro w hSw; (try dsimp only at hSw); go_simp; (try with_reducible rfl)
    try simp only [Act.put, List.setIfInBounds_toArray, List.set_cons_zero, List.set_cons_succ]
    refine wpAnyH_take (i := 2) (oi := ⟨some 95, _, _, _, _, none⟩) (v := (.agg #[.int .i64 kd, .int .i64 ord])) rfl (by kernel_rfl) (by kernel_rfl) (by kernel_rfl) (fun _ _ _ h => h) (Or.inl ⟨by rfl, ?_⟩) (by assumption) ?_
    · intro w hSw; (try dsimp only at hSw); have q0 : w.cell? ⟨ax, 0, none⟩ = some (.int .i64 kd) := hSw.1; have q1 : w.cell? ⟨ax, 1, none⟩ = some (.int .i64 ord) := hSw.2; go_simp; (try simp)
    try simp only [Act.put, List.setIfInBounds_toArray, List.set_cons_zero, List.set_cons_succ]
    refine wpAnyH_ready (rs := [1]) (by kernel_rfl) (by simp) ?_
    refine AllReadyH.cons (o := ⟨some 94, _, _, _, _, none⟩) rfl (fun K hK => ?_) AllReadyH.nil
    go_simp
    go_wp2_with (go_at_call 18; refine Calls.mono (Iv.given (show Iv Z1 U (RU F0 m) b (6000 + 20 * k) U from ⟨F, G, HX1.out.1.bu, HX1.out.1.st, Kf.refl _ _⟩) (by omega)) ?_; rintro e y1 ⟨pq, Lq, cq, rfl, hL, hW, hl, hb⟩)
    have HX2 : Hid (Pg w1 y1 Z1 b (6000 + 20 * k) F G (RU F0 m) ∧ Rf y1 Z1 fb nn sx F G pg ll cg L ∧ Blk y1 ax [.int .i64 kd, .int .i64 ord] 38) := ⟨⟨HX1.out.1.bu.below hb, HX1.out.1.st, HX1.out.1.zl, HX1.out.1.bl.trans (hb.mono HX1.out.1.bl.size)⟩, HX1.out.2.1.kf (Kf.below hb) ZP.out.1 ZP.out.2, HX1.out.2.2.below hb⟩
    have HL : Hid (Lst y1 (.slice pq Lq.length cq) Lq ∧ (∀ x, x ∈ Lq → (Lit.int .i64 x).wf = true) ∧ Lq.length ≤ 1048576) := ⟨hL, hW, hl⟩
    clear hb hHeld HX1 hL hW hl
    refine hK.out _ _ ⟨HX2.out.2.2.cell 0, HX2.out.2.2.cell 1⟩ (fun hHeld => ?_)
    clear hK K
    try simp only [Act.put, List.setIfInBounds_toArray, List.set_cons_zero, List.set_cons_succ]
    refine wpAnyH_ready (rs := [3]) (by kernel_rfl) (by simp) ?_
    refine AllReadyH.cons (o := ⟨some 96, _, _, _, _, none⟩) rfl (fun K hK => ?_) AllReadyH.nil
    go_simp
    go_wp2_with (go_at_call 17; refine Calls.mono (which_any pq Lq cq kd ord WB.out y1 HL.out.1 HL.out.2.1 HL.out.2.2) ?_; rintro e y2 ⟨⟨x, rfl, hx⟩, hb⟩)
    have HX3 : Hid (Pg w1 y2 Z1 b (6000 + 20 * k) F G (RU F0 m) ∧ Rf y2 Z1 fb nn sx F G pg ll cg L ∧ Blk y2 ax [.int .i64 kd, .int .i64 ord] 38) := ⟨⟨HX2.out.1.bu.below hb, HX2.out.1.st, HX2.out.1.zl, HX2.out.1.bl.trans (hb.mono HX2.out.1.bl.size)⟩, HX2.out.2.1.kf (Kf.below hb) ZP.out.1 ZP.out.2, HX2.out.2.2.below hb⟩
    have HXX : Hid ((Lit.int .i64 x).wf = true) := hx
    clear hb hHeld HX2 HL hx
    refine hK.out _ _ ⟨HX3.out.2.2.cell 0, HX3.out.2.2.cell 1⟩ (fun hHeld => ?_)
    clear hK K
    try simp only [Act.put, List.setIfInBounds_toArray, List.set_cons_zero, List.set_cons_succ]
    refine wpAnyH_take (i := 4) (oi := ⟨some 16, _, _, _, _, none⟩) (v := ?_) rfl (by kernel_rfl) (by kernel_rfl) (by kernel_rfl) (fun _ _ _ h => h) (Or.inl ⟨by rfl, ?_⟩) (by assumption) ?_
    rotate_left
    · intro w hSw; (try dsimp only at hSw); go_simp; (try with_reducible rfl)
    try simp only [Act.put, List.setIfInBounds_toArray, List.set_cons_zero, List.set_cons_succ]
    clear hHeld
    refine wpAnyH_done (by kernel_rfl) ?_ _
    refine NoPanic.normal ?_
    clear ac0 ac1 lax
    have BG : Hid _ := both_give (fb := fb) (sx := sx) (pg := pg) (ll := ll) (cg := cg) (L := L) HX3.out.1 nn9 NA.out (by have := LLK.out; omega) (by omega) x HXX.out
    go_wp2_with fail
    refine Calls.mono BG.out ?_
    rintro e u ⟨c, F', G', rfl, hPu, hku, hRu⟩
    have HPU : Hid (Pg w1 u Z1 b (6000 + 20 * k + 20) F' G' (RU F0 m)) := hPu
    have HRU : Hid (Rf u Z1 fb nn sx F G pg ll cg L ∧ Blk u ax [.int .i64 kd, .int .i64 ord] 38) := ⟨HX3.out.2.1.kf hku ZP.out.1 ZP.out.2, HX3.out.2.2.kf hku (fun h => h ZA.out)⟩
    have RGC : Hid _ := hRu u ZP.out.1 HRU.out.1
    have su0 : u.cell? ⟨sx, 0, none⟩ = some (.slice (some ⟨fb, 0, none⟩) nn nn) := HRU.out.1.bx.cell 0
    have su1 : u.cell? ⟨sx, 1, none⟩ = some (.slice pg ll cg) := HRU.out.1.bx.cell 1
    have lsu : sx < u.heap.size := blk_lt HRU.out.1.bx
    have ec : (c != c) = false := by simp
    clear hPu hku hRu BG HX3 HXX
    go_wp2_with fail
    refine Calls.mono RGC.out ?_
    rintro e v ⟨pg', ll', cg', L', rfl, hAns⟩
    obtain ⟨a1, a2, a3, a4, a5, a6⟩ := hAns
    have bv : Blk v sx [.slice (some ⟨fb, 0, none⟩) nn nn, .slice pg ll cg] 35 := HRU.out.1.bx.kf a6 (by have := FX.out; omega)
    have av : Blk v ax [.int .i64 kd, .int .i64 ord] 38 := HRU.out.2.kf a6 (by have := FX.out; omega)
    have sv0 : v.cell? ⟨sx, 0, none⟩ = some (.slice (some ⟨fb, 0, none⟩) nn nn) := bv.cell 0
    have sv1 : v.cell? ⟨sx, 1, none⟩ = some (.slice pg ll cg) := bv.cell 1
    have fv0 : v.frozen? ⟨sx, 0, none⟩ = false := bv.free 0
    have fv1 : v.frozen? ⟨sx, 1, none⟩ = false := bv.free 1
    have lsv : sx < v.heap.size := blk_lt bv
    have k2 : Kf (fun j => j = sx) v ((v.setCell ⟨sx, 0, none⟩ (.slice (some ⟨fb, 0, none⟩) nn nn)).setCell ⟨sx, 1, none⟩ (.slice pg' ll' cg')) := (Kf.set (S := fun j => j = sx) v sx 0 _ rfl).trans (Kf.set (S := fun j => j = sx) _ sx 1 _ rfl)
    have b3 : Below ((v.setCell ⟨sx, 0, none⟩ (.slice (some ⟨fb, 0, none⟩) nn nn)).setCell ⟨sx, 1, none⟩ (.slice pg' ll' cg')).heap.size ((v.setCell ⟨sx, 0, none⟩ (.slice (some ⟨fb, 0, none⟩) nn nn)).setCell ⟨sx, 1, none⟩ (.slice pg' ll' cg')) (((v.setCell ⟨sx, 0, none⟩ (.slice (some ⟨fb, 0, none⟩) nn nn)).setCell ⟨sx, 1, none⟩ (.slice pg' ll' cg')).alloc (.cells #[.slice (some ⟨fb, 0, none⟩) nn nn, .slice pg' ll' cg'] 35)) := Go.Joins.below_alloc1 _ _
    have P2 := HPU.out.next a6 (fun j h => by have h' : j = fb := h; subst h'; exact ⟨ZP.out.1, FX.out.1⟩)
    have P3 := P2.next k2 (fun j h => by have h' : j = sx := h; subst h'; exact ⟨Or.inl ZP.out.2, FX.out.2.1⟩)
    have P4 := P3.next (Kf.below (S := fun _ => False) b3) (fun j h => h.elim)
    have bs2 : Blk ((v.setCell ⟨sx, 0, none⟩ (.slice (some ⟨fb, 0, none⟩) nn nn)).setCell ⟨sx, 1, none⟩ (.slice pg' ll' cg')) sx [.slice (some ⟨fb, 0, none⟩) nn nn, .slice pg' ll' cg'] 35 := (show Blk (v.setCell ⟨sx, 0, none⟩ (.slice (some ⟨fb, 0, none⟩) nn nn)) sx [.slice (some ⟨fb, 0, none⟩) nn nn, .slice pg ll cg] 35 from bv.set 0 _).set 1 _
    have A4 : Blk (((v.setCell ⟨sx, 0, none⟩ (.slice (some ⟨fb, 0, none⟩) nn nn)).setCell ⟨sx, 1, none⟩ (.slice pg' ll' cg')).alloc (.cells #[.slice (some ⟨fb, 0, none⟩) nn nn, .slice pg' ll' cg'] 35)) ax [.int .i64 kd, .int .i64 ord] 38 := (av.kf k2 (by have := FX.out; omega)).below b3
    obtain ⟨Z4, hZ4⟩ : ∃ Z4 : Nat → Prop, Z4 = (fun j => ((Z1 j ∨ (u.heap.size ≤ j ∧ j < v.heap.size)) ∨ (v.heap.size ≤ j ∧ j < ((v.setCell ⟨sx, 0, none⟩ (.slice (some ⟨fb, 0, none⟩) nn nn)).setCell ⟨sx, 1, none⟩ (.slice pg' ll' cg')).heap.size)) ∨ (((v.setCell ⟨sx, 0, none⟩ (.slice (some ⟨fb, 0, none⟩) nn nn)).setCell ⟨sx, 1, none⟩ (.slice pg' ll' cg')).heap.size ≤ j ∧ j < (((v.setCell ⟨sx, 0, none⟩ (.slice (some ⟨fb, 0, none⟩) nn nn)).setCell ⟨sx, 1, none⟩ (.slice pg' ll' cg')).alloc (.cells #[.slice (some ⟨fb, 0, none⟩) nn nn, .slice pg' ll' cg'] 35)).heap.size)) := ⟨_, rfl⟩
    have P4 : Pg w1 (((v.setCell ⟨sx, 0, none⟩ (.slice (some ⟨fb, 0, none⟩) nn nn)).setCell ⟨sx, 1, none⟩ (.slice pg' ll' cg')).alloc (.cells #[.slice (some ⟨fb, 0, none⟩) nn nn, .slice pg' ll' cg'] 35)) Z4 b (6000 + 20 * k + 20) F' G' (RU F0 m) := by rw [hZ4]; exact P4
    have R4 : Rf (((v.setCell ⟨sx, 0, none⟩ (.slice (some ⟨fb, 0, none⟩) nn nn)).setCell ⟨sx, 1, none⟩ (.slice pg' ll' cg')).alloc (.cells #[.slice (some ⟨fb, 0, none⟩) nn nn, .slice pg' ll' cg'] 35)) Z4 fb nn sx F' G' pg' ll' cg' L' := by
      rw [hZ4]
      exact ⟨(a1.block (k2.block fb a1.lt (by have := FX.out; omega))).block (b3.block fb (Nat.lt_of_lt_of_le a1.lt k2.size)), bs2.below b3, ((a2.kf k2 (fun j _ h e => by have h' : j = sx := e; omega)).kf (Kf.below (S := fun _ => False) b3) (fun _ _ _ h => h)).mono (fun j h => Or.inl (Or.inl h)), a3, a4, FX.out.2.2.1⟩
    have Z4P : Hid (Z4 fb ∧ Z4 sx) := by rw [hZ4]; exact ⟨Or.inl (Or.inl (Or.inl ZP.out.1)), Or.inl (Or.inl (Or.inl ZP.out.2))⟩
    have HV0 : Hid (Pg w1 (((v.setCell ⟨sx, 0, none⟩ (.slice (some ⟨fb, 0, none⟩) nn nn)).setCell ⟨sx, 1, none⟩ (.slice pg' ll' cg')).alloc (.cells #[.slice (some ⟨fb, 0, none⟩) nn nn, .slice pg' ll' cg'] 35)) Z4 b (6000 + 20 * (k + 1)) F' G' (RU F0 m) ∧ Rf (((v.setCell ⟨sx, 0, none⟩ (.slice (some ⟨fb, 0, none⟩) nn nn)).setCell ⟨sx, 1, none⟩ (.slice pg' ll' cg')).alloc (.cells #[.slice (some ⟨fb, 0, none⟩) nn nn, .slice pg' ll' cg'] 35)) Z4 fb nn sx F' G' pg' ll' cg' L' ∧ Blk (((v.setCell ⟨sx, 0, none⟩ (.slice (some ⟨fb, 0, none⟩) nn nn)).setCell ⟨sx, 1, none⟩ (.slice pg' ll' cg')).alloc (.cells #[.slice (some ⟨fb, 0, none⟩) nn nn, .slice pg' ll' cg'] 35)) ax [.int .i64 kd, .int .i64 ord] 38) := ⟨P4.mono (by omega), R4, A4⟩
    have LL9 : Hid (ll' ≤ k + 1) := by show ll' ≤ k + 1; have := LLK.out; omega
    clear a1 a2 a3 a4 a5 a6 bv av k2 b3 P2 P3 P4 bs2 R4 A4 hZ4 RGC HRU HPU ZP
    go_upto_region 25 with fail
    generalize (((v.setCell ⟨sx, 0, none⟩ (.slice (some ⟨fb, 0, none⟩) nn nn)).setCell ⟨sx, 1, none⟩ (.slice pg' ll' cg')).alloc (.cells #[.slice (some ⟨fb, 0, none⟩) nn nn, .slice pg' ll' cg'] 35)) = Y at *
    clear sv0 sv1 fv0 fv1 lsv
    go_upto_region 27 with fail
    refine wp_region_noPanic ?_
    refine wp_region_held_drew (S := fun c => (c.cell? ⟨sx, 0, none⟩ = some (.slice (some ⟨fb, 0, none⟩) nn nn) ∧ c.cell? ⟨sx, 1, none⟩ = some (.slice pg' ll' cg')) ∧ c.cell? ⟨ax, 1, none⟩ = some (.int .i64 ord)) (by kernel_rfl) ?_ (fun hHeld => ?_)
    · exact ⟨⟨(HV0.out.2.1.bx).cell 0, (HV0.out.2.1.bx).cell 1⟩, (HV0.out.2.2).cell 1⟩
    have HV1 : Hid (Pg w1 Y.drew Z4 b (6000 + 20 * (k + 1)) F' G' (RU F0 m) ∧ Rf Y.drew Z4 fb nn sx F' G' pg' ll' cg' L' ∧ Blk Y.drew ax [.int .i64 kd, .int .i64 ord] 38) := ⟨⟨HV0.out.1.bu.below (below_drew (Below.refl _ _) : Below Y.heap.size Y Y.drew), HV0.out.1.st, HV0.out.1.zl, HV0.out.1.bl.trans ((below_drew (Below.refl _ _) : Below Y.heap.size Y Y.drew).mono HV0.out.1.bl.size)⟩, HV0.out.2.1.kf (Kf.below (below_drew (Below.refl _ _) : Below Y.heap.size Y Y.drew)) Z4P.out.1 Z4P.out.2, HV0.out.2.2.below (below_drew (Below.refl _ _) : Below Y.heap.size Y Y.drew)⟩
    clear HV0
    generalize Y.drew = U at HV1 hHeld ⊢
    refine wpAnyH_take (i := 0) (oi := ⟨some 110, _, _, _, _, none⟩) (v := ?_) rfl (by kernel_rfl) (by kernel_rfl) (by kernel_rfl) (fun _ _ _ h => h) (Or.inl ⟨by rfl, ?_⟩) (by assumption) ?_
    rotate_left
    · intro w hSw; (try dsimp only at hSw); go_simp; (try with_reducible rfl)
    try simp only [Act.put, List.setIfInBounds_toArray, List.set_cons_zero, List.set_cons_succ]
    refine wpAnyH_take (i := 2) (oi := ⟨some 112, _, _, _, _, none⟩) (v := (.agg #[.slice (some ⟨fb, 0, none⟩) nn nn, .slice pg' ll' cg'])) rfl (by kernel_rfl) (by kernel_rfl) (by kernel_rfl) (fun _ _ _ h => h) (Or.inl ⟨by rfl, ?_⟩) (by assumption) ?_
    · intro w hSw; (try dsimp only at hSw); have q0 : w.cell? ⟨sx, 0, none⟩ = some (.slice (some ⟨fb, 0, none⟩) nn nn) := hSw.1.1; have q1 : w.cell? ⟨sx, 1, none⟩ = some (.slice pg' ll' cg') := hSw.1.2; go_simp; (try simp)
    try simp only [Act.put, List.setIfInBounds_toArray, List.set_cons_zero, List.set_cons_succ]
    refine wpAnyH_ready (rs := [1]) (by kernel_rfl) (by simp) ?_
    refine AllReadyH.cons (o := ⟨some 111, _, _, _, _, none⟩) rfl (fun K hK => ?_) AllReadyH.nil
    go_simp
    go_wp2_with (go_at_call 21; refine Calls.mono (HV1.out.1.bu.free) ?_; rintro e x1 ⟨rfl, rfl⟩)
    clear hHeld
    refine hK.out _ _ ⟨⟨(HV1.out.2.1.bx).cell 0, (HV1.out.2.1.bx).cell 1⟩, (HV1.out.2.2).cell 1⟩ (fun hHeld => ?_)
    clear hK K
    try simp only [Act.put, List.setIfInBounds_toArray, List.set_cons_zero, List.set_cons_succ]
    refine wpAnyH_ready (rs := [3]) (by kernel_rfl) (by simp) ?_
    refine AllReadyH.cons (o := ⟨some 113, _, _, _, _, none⟩) rfl (fun K hK => ?_) AllReadyH.nil
    go_simp
    go_wp2_with (go_at_call 22; refine Calls.mono (rcnt_any fb nn nn (.slice pg' ll' cg') F' (fun i hi => NA.out i (HV1.out.1.st.sub i hi)) (by omega) _ HV1.out.2.1.sn) ?_; rintro e x2 ⟨rfl, hb⟩)
    have HV2 : Hid (Pg w1 x2 Z4 b (6000 + 20 * (k + 1)) F' G' (RU F0 m) ∧ Rf x2 Z4 fb nn sx F' G' pg' ll' cg' L' ∧ Blk x2 ax [.int .i64 kd, .int .i64 ord] 38) := ⟨⟨HV1.out.1.bu.below hb, HV1.out.1.st, HV1.out.1.zl, HV1.out.1.bl.trans (hb.mono HV1.out.1.bl.size)⟩, HV1.out.2.1.kf (Kf.below hb) Z4P.out.1 Z4P.out.2, HV1.out.2.2.below hb⟩
    clear hb hHeld HV1
    refine hK.out _ _ ⟨⟨(HV2.out.2.1.bx).cell 0, (HV2.out.2.1.bx).cell 1⟩, (HV2.out.2.2).cell 1⟩ (fun hHeld => ?_)
    clear hK K
    try simp only [Act.put, List.setIfInBounds_toArray, List.set_cons_zero, List.set_cons_succ]
    refine wpAnyH_take (i := 4) (oi := ⟨some 114, _, _, _, _, none⟩) (v := .bool false) rfl (by kernel_rfl) (by kernel_rfl) (by kernel_rfl) (fun _ _ _ h => h) (Or.inl ⟨by rfl, ?_⟩) (by assumption) ?_
    · intro w hSw; (try dsimp only at hSw); go_simp; (try simp); (try (simp only [IntKind.wrap_i64]; omega))
    try simp only [Act.put, List.setIfInBounds_toArray, List.set_cons_zero, List.set_cons_succ]
    refine wpAnyH_take (i := 5) (oi := ⟨some 115, _, _, _, _, none⟩) (v := ?_) rfl (by kernel_rfl) (by kernel_rfl) (by kernel_rfl) (fun _ _ _ h => h) (Or.inl ⟨by rfl, ?_⟩) (by assumption) ?_
    rotate_left
    · intro w hSw; (try dsimp only at hSw); go_simp; (try with_reducible rfl)
    try simp only [Act.put, List.setIfInBounds_toArray, List.set_cons_zero, List.set_cons_succ]
    refine wpAnyH_take (i := 6) (oi := ⟨some 116, _, _, _, _, some (5, false)⟩) (v := ?_) rfl (by kernel_rfl) (by kernel_rfl) (by kernel_rfl) (fun _ _ _ h => h) (Or.inl ⟨by rfl, ?_⟩) (by assumption) ?_
    rotate_left
    · intro w hSw; (try dsimp only at hSw); go_simp; (try with_reducible rfl)
    try simp only [Act.put, List.setIfInBounds_toArray, List.set_cons_zero, List.set_cons_succ]
    refine wpAnyH_take (i := 7) (oi := ⟨some 117, _, _, _, _, some (5, false)⟩) (v := (.pointer (some ⟨ax, 1, none⟩))) rfl (by kernel_rfl) (by kernel_rfl) (by kernel_rfl) (fun _ _ _ h => h) (Or.inl ⟨by rfl, ?_⟩) (by assumption) ?_
    · intro w hSw; (try dsimp only at hSw); go_simp; (try simp); (try (simp only [IntKind.wrap_i64]; omega))
    try simp only [Act.put, List.setIfInBounds_toArray, List.set_cons_zero, List.set_cons_succ]
    refine wpAnyH_take (i := 8) (oi := ⟨some 118, _, _, _, _, some (5, false)⟩) (v := (.int .i64 ord)) rfl (by kernel_rfl) (by kernel_rfl) (by kernel_rfl) (fun _ _ _ h => h) (Or.inl ⟨by rfl, ?_⟩) (by assumption) ?_
    · intro w hSw; (try dsimp only at hSw); have q0 : w.cell? ⟨ax, 1, none⟩ = some (.int .i64 ord) := hSw.2; go_simp; (try simp)
    try simp only [Act.put, List.setIfInBounds_toArray, List.set_cons_zero, List.set_cons_succ]
    refine wpAnyH_take (i := 10) (oi := ⟨some 120, _, _, _, _, some (5, false)⟩) (v := (.agg #[.slice (some ⟨fb, 0, none⟩) nn nn, .slice pg' ll' cg'])) rfl (by kernel_rfl) (by kernel_rfl) (by kernel_rfl) (fun _ _ _ h => h) (Or.inl ⟨by rfl, ?_⟩) (by assumption) ?_
    · intro w hSw; (try dsimp only at hSw); have q0 : w.cell? ⟨sx, 0, none⟩ = some (.slice (some ⟨fb, 0, none⟩) nn nn) := hSw.1.1; have q1 : w.cell? ⟨sx, 1, none⟩ = some (.slice pg' ll' cg') := hSw.1.2; go_simp; (try simp)
    try simp only [Act.put, List.setIfInBounds_toArray, List.set_cons_zero, List.set_cons_succ]
    refine wpAnyH_take (i := 11) (oi := ⟨some 121, _, _, _, _, some (5, false)⟩) (v := (.pointer (some ⟨ax, 1, none⟩))) rfl (by kernel_rfl) (by kernel_rfl) (by kernel_rfl) (fun _ _ _ h => h) (Or.inl ⟨by rfl, ?_⟩) (by assumption) ?_
    · intro w hSw; (try dsimp only at hSw); go_simp; (try simp); (try (simp only [IntKind.wrap_i64]; omega))
    try simp only [Act.put, List.setIfInBounds_toArray, List.set_cons_zero, List.set_cons_succ]
    refine wpAnyH_take (i := 12) (oi := ⟨some 122, _, _, _, _, some (5, false)⟩) (v := (.int .i64 ord)) rfl (by kernel_rfl) (by kernel_rfl) (by kernel_rfl) (fun _ _ _ h => h) (Or.inl ⟨by rfl, ?_⟩) (by assumption) ?_
    · intro w hSw; (try dsimp only at hSw); have q0 : w.cell? ⟨ax, 1, none⟩ = some (.int .i64 ord) := hSw.2; go_simp; (try simp)
    try simp only [Act.put, List.setIfInBounds_toArray, List.set_cons_zero, List.set_cons_succ]
    refine wpAnyH_ready (rs := [9]) (by kernel_rfl) (by simp) ?_
    refine AllReadyH.cons (o := ⟨some 119, _, _, _, _, some (5, false)⟩) rfl (fun K hK => ?_) AllReadyH.nil
    go_simp
    go_wp2_with (go_at_call 23; refine Calls.mono (HV2.out.1.bu.order WB.out) ?_; rintro e x3 ⟨rfl, rfl⟩)
    clear hHeld
    refine hK.out _ _ ⟨⟨(HV2.out.2.1.bx).cell 0, (HV2.out.2.1.bx).cell 1⟩, (HV2.out.2.2).cell 1⟩ (fun hHeld => ?_)
    clear hK K
    try simp only [Act.put, List.setIfInBounds_toArray, List.set_cons_zero, List.set_cons_succ]
    refine wpAnyH_ready (rs := [13]) (by kernel_rfl) (by simp) ?_
    refine AllReadyH.cons (o := ⟨some 123, _, _, _, _, some (5, false)⟩) rfl (fun K hK => ?_) AllReadyH.nil
    go_simp
    go_wp2_with (go_at_call 24; refine Calls.mono (rorder_any fb nn nn (sx + 1) (.slice pg' ll' cg') L' G' HV2.out.2.1.lg (by have h1 := HV2.out.2.1.len; have h2 := LL9.out; omega) ord _ HV2.out.2.1.lz.lb) ?_; rintro e x4 ⟨rfl, hb⟩)
    have HV3 : Hid (Pg w1 x4 Z4 b (6000 + 20 * (k + 1)) F' G' (RU F0 m) ∧ Rf x4 Z4 fb nn sx F' G' pg' ll' cg' L' ∧ Blk x4 ax [.int .i64 kd, .int .i64 ord] 38) := ⟨⟨HV2.out.1.bu.below hb, HV2.out.1.st, HV2.out.1.zl, HV2.out.1.bl.trans (hb.mono HV2.out.1.bl.size)⟩, HV2.out.2.1.kf (Kf.below hb) Z4P.out.1 Z4P.out.2, HV2.out.2.2.below hb⟩
    clear hb hHeld HV2
    refine hK.out _ _ ⟨⟨(HV3.out.2.1.bx).cell 0, (HV3.out.2.1.bx).cell 1⟩, (HV3.out.2.2).cell 1⟩ (fun hHeld => ?_)
    clear hK K
    try simp only [Act.put, List.setIfInBounds_toArray, List.set_cons_zero, List.set_cons_succ]
    refine wpAnyH_take (i := 14) (oi := ⟨some 124, _, _, _, _, some (5, false)⟩) (v := .bool false) rfl (by kernel_rfl) (by kernel_rfl) (by kernel_rfl) (fun _ _ _ h => h) (Or.inl ⟨by rfl, ?_⟩) (by assumption) ?_
    · intro w hSw; (try dsimp only at hSw); go_simp; (try simp); (try (simp only [IntKind.wrap_i64]; omega))
    try simp only [Act.put, List.setIfInBounds_toArray, List.set_cons_zero, List.set_cons_succ]
    refine wpAnyH_take (i := 15) (oi := ⟨some 125, _, _, _, _, none⟩) (v := ?_) rfl (by kernel_rfl) (by kernel_rfl) (by kernel_rfl) (fun _ _ _ h => h) (Or.inl ⟨by rfl, ?_⟩) (by assumption) ?_
    rotate_left
    · intro w hSw; (try dsimp only at hSw); go_simp; (try with_reducible rfl)
    try simp only [Act.put, List.setIfInBounds_toArray, List.set_cons_zero, List.set_cons_succ]
    clear hHeld
    refine wpAnyH_done (by kernel_rfl) ?_ _
    refine NoPanic.normal ?_
    go_wp2_with fail
    go_roundw
    case rel => exact ⟨k + 1, by omega, by omega, by go_num, ⟨Z4, F', G', pg', ll', cg', L', HV3.out.1, HV3.out.2.1, Z4P.out, LL9.out⟩⟩
    case measure => simp [Go.RowKit.intOf]; omega

theorem own : ownKnob Try.prog.godebug = none := by kernel_rfl
theorem laidOut : laidOutB Try.prog = true := by kernel_rfl
set_option maxRecDepth 100000 in
theorem lifted (os : Os) (started : os.Started) (H : Type) (enc : TypeId × Value → H) :
    ReturnsInHanded {} Try.checked os 3 .any (Rows.buddyPlaysSpec.pre6 enc Try.prog Try.f3 Rows.buddyPlaysRow.domain false) (Rows.buddyPlaysSpec.post enc Try.prog Try.f3 false true false false) := by
  refine returnsInHanded_of_change (C := Try.checked) own started (by kernel_rfl) Try.func3
    (ChangeSpec.witness6 (enc := enc) (C := Try.checked) false ⟨#[], #[.slice none 0 0, .slice none 0 0], []⟩ 8 (by kernel_rfl) (by kernel_rfl) (by kernel_rfl) (by kernel_rfl)) ?_
  intro W base args ds gs before hval0 hW hcnd _
  have hval : ∀ (j : Nat) t v, Try.f3.params[j]? = some t → args[j]? = some v → Value.okWide Try.prog W .any base t v := hval0
  have hW' := hW
  obtain ⟨p, q, hA0, hV, hbef, hfz, hnd⟩ := hW
  have hA : DataW.TrodAll enc Try.prog W 0 (fun _ => true) true Try.f3.params.toList args.toList ds p := hA0
  have hAk := hA
  have hlt : ∀ x ∈ p, x.block < W.heap.size := fun x hx => hW'.lt x (by rw [hbef]; exact List.mem_append_left _ hx)
  rw [Try.params3] at hA hval
  obtain ⟨v0, vs0, d0, ds0, p0, q0, hargs, rfl, hp0, h0, r0⟩ := trodAll_cons hA
  obtain ⟨v1, vs1, d1, ds1, p1, q1, rfl, rfl, hp1, h1, r1⟩ := trodAll_cons r0
  obtain ⟨rfl, rfl, hpz⟩ := trodAll_nil r1
  obtain rfl : args = #[v0, v1] := by cases args; simp_all
  obtain ⟨rfl, rfl⟩ := trodVars_none hV
  obtain ⟨p0, n0, c0, F0, rfl, m0, l0, H0⟩ := open_rgs (hval 0 22 v0 rfl rfl) h0
  obtain ⟨p1, n1, c1, A1, rfl, m1, l1, H1⟩ := open_acts (hval 1 23 v1 rfl rfl) h1
  clear hA0 hval0
  refine (walk p0 n0 c0 F0 m0 l0 p1 n1 c1 A1 m1 l1 W H0 H1).mono fun e W' ⟨he, hg⟩ => ?_
  subst he
  exact ⟨_, rfl, ⟨_, _, _, [], p, [], hW', (trodAll_cons_mk (shut_bool Try.underlying4 _) trodAll_mk0), args_stay laidOut hg (by kernel_rfl) hAk hlt, rfl, hg.frame _, fun h => by cases h⟩⟩

theorem over : Rows.buddyPlaysRow.holds Try.pinned (OpenSpec.ofChange Rows.buddyPlaysSpec) :=
  OpenClaim.holds_of_wide 3 Try.f3 rfl rfl rfl rfl rfl rfl rfl ⟨rfl, rfl, rfl, rfl, rfl⟩ rfl rfl rfl rfl rfl (by kernel_rfl) Try.func3 (by kernel_rfl)
    (of_decide_eq_true (by kernel_rfl)) (by unfold Func.isWrapper; first | (rw [if_pos (by decide +kernel)]; kernel_rfl) | (rw [if_neg (by decide +kernel)]; exact ⟨rfl, rfl⟩))
    (fun os started H enc _ => lifted os started H enc)

theorem proved : Rows.BuddyPlaysSaid :=
  over
#print axioms proved
end Go.Proofs.Ytpjejjonkdhelaa.buddyPlays
