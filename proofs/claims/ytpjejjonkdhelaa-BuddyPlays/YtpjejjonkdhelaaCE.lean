/- The document's buddy: Give. -/
import Derived.Test.YtpjejjonkdhelaaCD
namespace Go.Proofs.Ytpjejjonkdhelaa
open Go.ChangeShapes Go.WideShapes Go.ChangeAt Go.RowKit Go.Maps
set_option linter.unusedSimpArgs false
set_option linter.unusedVariables false
set_option maxRecDepth 8000

theorem filt_yes {L : List (Int × Int)} {x : Int} {i : Nat} (hi : i < L.length) (h : L[i].1 ≠ x) : (L.take (i + 1)).filter (fun q => decide (q.1 ≠ x)) = (L.take i).filter (fun q => decide (q.1 ≠ x)) ++ [L[i]] := by
  rw [List.take_add_one, List.getElem?_eq_getElem hi, List.filter_append]
  show _ ++ [L[i]].filter _ = _
  rw [List.filter_cons_of_pos (by simpa using h)]; rfl
theorem filt_no {L : List (Int × Int)} {x : Int} {i : Nat} (hi : i < L.length) (h : L[i].1 = x) : (L.take (i + 1)).filter (fun q => decide (q.1 ≠ x)) = (L.take i).filter (fun q => decide (q.1 ≠ x)) := by
  rw [List.take_add_one, List.getElem?_eq_getElem hi, List.filter_append]
  show _ ++ [L[i]].filter _ = _
  rw [List.filter_cons_of_neg (by simp [h])]; simp
theorem getD_in {L : List (Int × Int)} {i : Nat} (hi : i < L.length) : L.getD i (0, 0) = L[i] := by rw [List.getD_eq_getElem?_getD, List.getElem?_eq_getElem hi]; rfl
set_option maxHeartbeats 4000000 in
theorem rgive_any (fb n cf lo : Nat) (gv : Value) (L : List (Int × Int)) (G : Int → Option Int) (hG : LG L G) (l9 : L.length ≤ 100000) (F : Nat → Prop) (n9 : n ≤ 6144) (x : Int) (k p : Nat) (found : Bool)
    (hy : found = true → G x = some (k : Int)) (hno : found = false → G x = none) (hk : k ≤ 10) (hx : found = true → x = ((p * 2 ^ k : Nat) : Int) ∧ p * 2 ^ k + 2 ^ k ≤ n) (w : World) (hS : Sn w fb n F) (hL : LB w lo gv L) (fl : fb < lo) :
    Calls Try.prog 20 #[.agg #[.slice (some ⟨fb, 0, none⟩) n cf, gv], .int .i64 x] w fun e w' => ∃ v', e = .returned (.tuple #[.agg #[.slice (some ⟨fb, 0, none⟩) n cf, v'], .int .i64 (if found = true then 0 else 5)]) ∧ Sn w' fb n (fun y => F y ∨ (found = true ∧ y / 2 ^ k = p)) ∧ LB w' w.heap.size v' (L.filter (fun q => decide (q.1 ≠ x))) ∧ Kf (fun j => j = fb) w w' := by
  obtain ⟨pg, cg, rfl, rd⟩ := hL
  have RD : Hid (∀ i (hi : i < L.length), ∃ g, pg = some ⟨g, 0, none⟩ ∧ lo ≤ g ∧ g < w.heap.size ∧ w.cell? ⟨g, i * 2, none⟩ = some (.int .i64 L[i].1) ∧ w.cell? ⟨g, i * 2 + 1, none⟩ = some (.int .i64 L[i].2)) := rd
  obtain ⟨ll, hll⟩ : ∃ ll, ll = L.length := ⟨_, rfl⟩
  have HLL : Hid (ll = L.length) := hll
  obtain ⟨zc, hzc⟩ : ∃ zc : Int, (if found = true then (0 : Int) else 5) = zc := ⟨_, rfl⟩
  rw [hzc]
  have HZ1 : Hid (found = true → zc = 0) := fun h => by rw [← hzc, if_pos h]
  have HZ0 : Hid (found = false → zc = 5) := fun h => by rw [← hzc, if_neg (by rw [h]; simp)]
  rw [← hll] at l9 ⊢
  obtain ⟨m, hm, m1, m2, wA, wB⟩ := pw_facts hk
  have HM : Hid (m = 2 ^ k) := hm
  have HY : Hid (found = true → G x = some (k : Int)) := hy
  have HNO : Hid (found = false → G x = none) := hno
  have HX : Hid (found = true → x = ((p * 2 ^ k : Nat) : Int) ∧ p * 2 ^ k + 2 ^ k ≤ n) := hx
  have HG : Hid (LG L G) := hG
  have lfw := hS.lt
  obtain ⟨sx, hsx⟩ : ∃ sx, w.heap.size = sx := ⟨_, rfl⟩
  obtain ⟨base, hba⟩ : ∃ base, sx + 2 = base := ⟨_, rfl⟩
  have A1 : Below w.heap.size w (w.alloc (.cells #[.slice (some ⟨fb, 0, none⟩) n cf, .slice pg ll cg] 35)) := Go.Joins.below_alloc1 _ _
  have A2 : Below (w.alloc (.cells #[.slice (some ⟨fb, 0, none⟩) n cf, .slice pg ll cg] 35)).heap.size (w.alloc (.cells #[.slice (some ⟨fb, 0, none⟩) n cf, .slice pg ll cg] 35)) ((w.alloc (.cells #[.slice (some ⟨fb, 0, none⟩) n cf, .slice pg ll cg] 35)).alloc (.cells #[.slice none 0 0, .slice none 0 0] 35)) := Go.Joins.below_alloc1 _ _
  have A3 : Below ((w.alloc (.cells #[.slice (some ⟨fb, 0, none⟩) n cf, .slice pg ll cg] 35)).alloc (.cells #[.slice none 0 0, .slice none 0 0] 35)).heap.size ((w.alloc (.cells #[.slice (some ⟨fb, 0, none⟩) n cf, .slice pg ll cg] 35)).alloc (.cells #[.slice none 0 0, .slice none 0 0] 35)) (((w.alloc (.cells #[.slice (some ⟨fb, 0, none⟩) n cf, .slice pg ll cg] 35)).alloc (.cells #[.slice none 0 0, .slice none 0 0] 35)).alloc (.cells #[] 75)) := Go.Joins.below_alloc1 _ _
  have s1 : (w.alloc (.cells #[.slice (some ⟨fb, 0, none⟩) n cf, .slice pg ll cg] 35)).heap.size = sx + 1 := by rw [World.size_alloc, hsx]
  have s2 : ((w.alloc (.cells #[.slice (some ⟨fb, 0, none⟩) n cf, .slice pg ll cg] 35)).alloc (.cells #[.slice none 0 0, .slice none 0 0] 35)).heap.size = sx + 2 := by rw [World.size_alloc, s1]
  have s3 : (((w.alloc (.cells #[.slice (some ⟨fb, 0, none⟩) n cf, .slice pg ll cg] 35)).alloc (.cells #[.slice none 0 0, .slice none 0 0] 35)).alloc (.cells #[] 75)).heap.size = sx + 3 := by rw [World.size_alloc, s2]
  have SXB : Hid (Blk (((w.alloc (.cells #[.slice (some ⟨fb, 0, none⟩) n cf, .slice pg ll cg] 35)).alloc (.cells #[.slice none 0 0, .slice none 0 0] 35)).alloc (.cells #[] 75)) sx [.slice (some ⟨fb, 0, none⟩) n cf, .slice pg ll cg] 35) := by
    have h : Blk (w.alloc (.cells #[.slice (some ⟨fb, 0, none⟩) n cf, .slice pg ll cg] 35)) w.heap.size [.slice (some ⟨fb, 0, none⟩) n cf, .slice pg ll cg] 35 := own1 w _
    rw [hsx] at h
    exact (h.below A2).below A3
  have RBB : Hid (Blk (((w.alloc (.cells #[.slice (some ⟨fb, 0, none⟩) n cf, .slice pg ll cg] 35)).alloc (.cells #[.slice none 0 0, .slice none 0 0] 35)).alloc (.cells #[] 75)) (sx + 1) [.slice none 0 0, .slice none 0 0] 35) := by
    have h : Blk ((w.alloc (.cells #[.slice (some ⟨fb, 0, none⟩) n cf, .slice pg ll cg] 35)).alloc (.cells #[.slice none 0 0, .slice none 0 0] 35)) (w.alloc (.cells #[.slice (some ⟨fb, 0, none⟩) n cf, .slice pg ll cg] 35)).heap.size [.slice none 0 0, .slice none 0 0] 35 := own1 _ _
    rw [s1] at h
    exact h.below A3
  have BW : Hid (Below w.heap.size w (((w.alloc (.cells #[.slice (some ⟨fb, 0, none⟩) n cf, .slice pg ll cg] 35)).alloc (.cells #[.slice none 0 0, .slice none 0 0] 35)).alloc (.cells #[] 75))) := below_then (below_then A1 A2) A3
  have OB0 : Hid (OB (((w.alloc (.cells #[.slice (some ⟨fb, 0, none⟩) n cf, .slice pg ll cg] 35)).alloc (.cells #[.slice none 0 0, .slice none 0 0] 35)).alloc (.cells #[] 75)) base (.slice (some ⟨((w.alloc (.cells #[.slice (some ⟨fb, 0, none⟩) n cf, .slice pg ll cg] 35)).alloc (.cells #[.slice none 0 0, .slice none 0 0] 35)).heap.size, 0, none⟩) 0 0) []) := ob_empty _ base (by omega)
  have SN0 : Hid (Sn (((w.alloc (.cells #[.slice (some ⟨fb, 0, none⟩) n cf, .slice pg ll cg] 35)).alloc (.cells #[.slice none 0 0, .slice none 0 0] 35)).alloc (.cells #[] 75)) fb n F) := hS.block (BW.out.block fb lfw)
  have HSX : Hid (w.heap.size = sx) := hsx
  clear hS rd hll hzc hy hno hx hG hm A1 A2 A3
  go_enter Try.func20, Try.ntmps20
  go_upto_region 2 with fail
  rw [s2, hba] at OB0
  have HBA : Hid (sx + 2 = base) := hba
  have W2S : Hid ((((w.alloc (.cells #[.slice (some ⟨fb, 0, none⟩) n cf, .slice pg ll cg] 35)).alloc (.cells #[.slice none 0 0, .slice none 0 0] 35)).alloc (.cells #[] 75)).heap.size = base + 1) := by show _ = _; rw [s3]; omega
  clear s1 s2 s3
  generalize (((w.alloc (.cells #[.slice (some ⟨fb, 0, none⟩) n cf, .slice pg ll cg] 35)).alloc (.cells #[.slice none 0 0, .slice none 0 0] 35)).alloc (.cells #[] 75)) = w2 at *
  have ofb : fb < sx := by omega
  have sxb : sx + 1 < base := by omega
  clear hsx hba lfw
  have J0 : Hid (Kf (fun j => j = fb ∨ base ≤ j) w2 w2 ∧ Sn w2 fb n (fun y => F y ∨ ((∃ j, j < 0 ∧ (L.getD j (0, 0)).1 = x) ∧ y / 2 ^ k = p)) ∧ OB w2 base (.slice (some ⟨base, 0, none⟩) 0 0) ((L.take 0).filter (fun q => decide (q.1 ≠ x)))) := by
    refine ⟨Kf.refl _ _, SN0.out.congr (fun y => ⟨Or.inl, fun h => h.elim id (fun h => absurd h.1.choose_spec.1 (Nat.not_lt_zero _))⟩), ?_⟩
    exact OB0.out
  have WK : Hid (∀ W, Kf (fun j => j = fb ∨ base ≤ j) w2 W → (Blk W sx [.slice (some ⟨fb, 0, none⟩) n cf, .slice pg ll cg] 35 ∧ Blk W (sx + 1) [.slice none 0 0, .slice none 0 0] 35) ∧ Kf (fun j => j = fb) w W) := fun W kf => ⟨⟨SXB.out.kf kf (by omega), RBB.out.kf kf (by omega)⟩, ⟨kf.os.trans BW.out.os, kf.tape.trans BW.out.tape, kf.output.trans BW.out.output, Nat.le_trans BW.out.size kf.size, fun j hj nj => (kf.block j (Nat.lt_of_lt_of_le hj BW.out.size) (fun e => e.elim nj (fun e => by have := HSX.out; omega))).trans (BW.out.block j hj)⟩⟩
  have sc1 : w2.cell? ⟨sx, 1, none⟩ = some (.slice pg ll cg) := SXB.out.cell 1
  have lsx : sx < w2.heap.size := blk_lt SXB.out
  clear SN0 OB0
  go_wp2_with fail
  clear sc1 lsx
  go_loopw [6, 7, 9, 14] (fun v6 v7 _ vi W => ∃ (i : Nat) (z : Bool), i ≤ ll ∧ vi = .int .i64 i ∧ v7 = .bool z ∧ Hid (z = true ↔ ∃ j, j < i ∧ (L.getD j (0, 0)).1 = x) ∧ Hid (Kf (fun j => j = fb ∨ base ≤ j) w2 W ∧ Sn W fb n (fun y => F y ∨ ((∃ j, j < i ∧ (L.getD j (0, 0)).1 = x) ∧ y / 2 ^ k = p)) ∧ OB W base v6 ((L.take i).filter (fun q => decide (q.1 ≠ x))))) (fun _ _ _ vi _ => ll - (Go.RowKit.intOf vi).toNat)
  case atStart => exact ⟨0, false, by omega, rfl, rfl, ⟨(fun h => by cases h), fun ⟨j, h, _⟩ => absurd h (Nat.not_lt_zero _)⟩, J0⟩
  case round =>
    clear J0
    obtain ⟨i, z, hi, rfl, rfl, hz, hJ⟩ := hrel
    by_cases ci : i < ll
    · have d1 : decide ((i : Int) < (ll : Int)) = true := by simp; omega
      have d0 : decide ((i : Int) < 0) = false := by simp
      have iL : i < L.length := by have := HLL.out; omega
      obtain ⟨gq, rfl, lo2, lgq, q1, q2⟩ := RD.out i iL
      have kw := (WK.out wr hJ.out.1).2
      have nq : ¬ gq = fb := by omega
      have k1 : wr.cell? ⟨gq, i * 2, none⟩ = some (.int .i64 L[i].1) := by rw [World.cell?_of_block (w := w) (a := ⟨gq, i * 2, none⟩) (kw.block gq lgq nq)]; exact q1
      have k2 : wr.cell? ⟨gq, i * 2 + 1, none⟩ = some (.int .i64 L[i].2) := by rw [World.cell?_of_block (w := w) (a := ⟨gq, i * 2 + 1, none⟩) (kw.block gq lgq nq)]; exact q2
      have lg2 : gq < wr.heap.size := Nat.lt_of_lt_of_le lgq kw.size
      have gi := HG.out.one iL
      by_cases ex : L[i].1 = x
      · have ft : found = true := by
          cases hf : found with
          | true => rfl
          | false => rw [ex, HNO.out hf] at gi; cases gi
        have ok_ : L[i].2 = (k : Int) := by rw [ex, HY.out ft] at gi; exact (Option.some.inj gi).symm
        have HXT : Hid (x = ((p * 2 ^ k : Nat) : Int) ∧ p * 2 ^ k + 2 ^ k ≤ n) := HX.out ft
        have e1 : (x == x) = true := by simp
        rw [ex] at k1
        rw [ok_] at k2
        have NXT : Hid (∀ W W', Below wr.heap.size wr W → Kf (fun j => j = fb) W W' → Sn W' fb n (fun y => ((p * 2 ^ k ≤ y ∧ y < p * 2 ^ k + 2 ^ k) ∧ true = true) ∨ (¬ (p * 2 ^ k ≤ y ∧ y < p * 2 ^ k + 2 ^ k) ∧ (fun y => F y ∨ ((∃ j, j < i ∧ (L.getD j (0, 0)).1 = x) ∧ y / 2 ^ k = p)) y)) → Kf (fun j => j = fb ∨ base ≤ j) w2 W' ∧ Sn W' fb n (fun y => F y ∨ ((∃ j, j < (i + 1) ∧ (L.getD j (0, 0)).1 = x) ∧ y / 2 ^ k = p)) ∧ OB W' base u6 ((L.take (i + 1)).filter (fun q => decide (q.1 ≠ x)))) := fun W W' hb kf hSn => by
          obtain ⟨g1, g2, g3⟩ := hJ.out
          refine ⟨(g1.trans (Kf.below hb)).trans (kf.le (fun j h => Or.inl h)), hSn.congr (fun y => ?_), ?_⟩
          · rw [← in_blk]
            constructor
            · rintro (h | ⟨_, h | h⟩)
              · exact Or.inr ⟨⟨i, Nat.lt_succ_self i, by rw [getD_in iL]; exact ex⟩, h.1⟩
              · exact Or.inl h
              · exact Or.inr ⟨⟨h.1.choose, Nat.lt_succ_of_lt h.1.choose_spec.1, h.1.choose_spec.2⟩, h.2⟩
            · rintro (h | h)
              · by_cases c : y / 2 ^ k = p
                · exact Or.inl ⟨c, rfl⟩
                · exact Or.inr ⟨c, Or.inl h⟩
              · exact Or.inl ⟨h.2, rfl⟩
          · rw [filt_no iL ex]
            have hb2 := row_lt g3
            refine row_keep g3 (fun g e => ?_)
            have := hb2 g e
            rw [kf.block g (Nat.lt_of_lt_of_le this.2 hb.size) (by omega), hb.block g this.2]
        have SC : Hid (∀ W, Below (wr.alloc (.cells #[.int .i64 x, .int .i64 (k : Int)] 75)).heap.size (wr.alloc (.cells #[.int .i64 x, .int .i64 (k : Int)] 75)) W → Calls Try.prog 37 #[.agg #[.slice (some ⟨fb, 0, none⟩) n cf, .slice (some ⟨gq, 0, none⟩) ll cg], .int .i64 x, .int .i64 m, .bool true] W fun e w' => e = .returned (.tuple #[]) ∧ (Kf (fun j => j = fb ∨ base ≤ j) w2 w' ∧ Sn w' fb n (fun y => F y ∨ ((∃ j, j < (i + 1) ∧ (L.getD j (0, 0)).1 = x) ∧ y / 2 ^ k = p)) ∧ OB w' base u6 ((L.take (i + 1)).filter (fun q => decide (q.1 ≠ x)))) ∧ (w'.cell? ⟨sx, 0, none⟩ = some (.slice (some ⟨fb, 0, none⟩) n cf) ∧ w'.cell? ⟨sx, 1, none⟩ = some (.slice (some ⟨gq, 0, none⟩) ll cg)) ∧ w'.cell? ⟨wr.heap.size, 0, none⟩ = some (.int .i64 x) ∧ w'.cell? ⟨wr.heap.size, 1, none⟩ = some (.int .i64 (k : Int))) := fun W hb => by
          have ba : Below wr.heap.size wr (wr.alloc (.cells #[.int .i64 x, .int .i64 (k : Int)] 75)) := Go.Joins.below_alloc1 _ _
          have hbw := below_then ba hb
          have hSn := hJ.out.2.1.block (hbw.block fb hJ.out.2.1.lt)
          have r := rset_any fb n cf (.slice (some ⟨gq, 0, none⟩) ll cg) (p * 2 ^ k) (2 ^ k) true (fun y => F y ∨ ((∃ j, j < i ∧ (L.getD j (0, 0)).1 = x) ∧ y / 2 ^ k = p)) HXT.out.2 (by omega) W hSn
          have r2 : Calls Try.prog 37 #[.agg #[.slice (some ⟨fb, 0, none⟩) n cf, .slice (some ⟨gq, 0, none⟩) ll cg], .int .i64 x, .int .i64 m, .bool true] W fun e w' => e = .returned (.tuple #[]) ∧ Sn w' fb n (fun y => ((p * 2 ^ k ≤ y ∧ y < p * 2 ^ k + 2 ^ k) ∧ true = true) ∨ (¬ (p * 2 ^ k ≤ y ∧ y < p * 2 ^ k + 2 ^ k) ∧ (fun y => F y ∨ ((∃ j, j < i ∧ (L.getD j (0, 0)).1 = x) ∧ y / 2 ^ k = p)) y)) ∧ Kf (fun j => j = fb) W w' := by
            have ea : (#[.agg #[.slice (some ⟨fb, 0, none⟩) n cf, .slice (some ⟨gq, 0, none⟩) ll cg], .int .i64 x, .int .i64 m, .bool true] : Array Value) = #[.agg #[.slice (some ⟨fb, 0, none⟩) n cf, .slice (some ⟨gq, 0, none⟩) ll cg], .int .i64 ((p * 2 ^ k : Nat) : Int), .int .i64 ((2 ^ k : Nat) : Int), .bool true] := by rw [← HXT.out.1, ← HM.out]
            rw [ea]; exact r
          clear r
          refine r2.mono ?_
          rintro e w' ⟨he, hs, kf⟩
          have J := NXT.out W w' hbw kf hs
          have bs := (WK.out w' J.1).1.1
          have bb : Blk W wr.heap.size [.int .i64 x, .int .i64 (k : Int)] 75 := (show Blk (wr.alloc (.cells #[.int .i64 x, .int .i64 (k : Int)] 75)) wr.heap.size [.int .i64 x, .int .i64 (k : Int)] 75 from own1 wr _).below hb
          have bb2 := bb.kf kf (by have := hJ.out.2.1.lt; omega)
          exact ⟨he, J, ⟨bs.cell 0, bs.cell 1⟩, bb2.cell 0, bb2.cell 1⟩
        have SXW : Hid (Blk (wr.alloc (.cells #[.int .i64 x, .int .i64 (k : Int)] 75)) sx [.slice (some ⟨fb, 0, none⟩) n cf, .slice (some ⟨gq, 0, none⟩) ll cg] 35) := (WK.out wr hJ.out.1).1.1.below (Go.Joins.below_alloc1 _ _)
        have BXW : Hid (Blk (wr.alloc (.cells #[.int .i64 x, .int .i64 (k : Int)] 75)) wr.heap.size [.int .i64 x, .int .i64 (k : Int)] 75) := own1 wr _
        have HZ2 : Hid (true = true ↔ ∃ j, j < i + 1 ∧ (L.getD j (0, 0)).1 = x) := ⟨fun _ => ⟨i, by omega, by rw [getD_in iL]; exact ex⟩, fun _ => rfl⟩
        clear gi kw q1 q2 ok_ HXT NXT hJ hz ex iL
        go_upto_region 6 with fail
        generalize wr.alloc (.cells #[.int .i64 x, .int .i64 (k : Int)] 75) = V at *
        generalize wr.heap.size = bx at *
        have sc0 : V.cell? ⟨sx, 0, none⟩ = some (.slice (some ⟨fb, 0, none⟩) n cf) := SXW.out.cell 0
        have sc1 : V.cell? ⟨sx, 1, none⟩ = some (.slice (some ⟨gq, 0, none⟩) ll cg) := SXW.out.cell 1
        have bc0 : V.cell? ⟨bx, 0, none⟩ = some (.int .i64 x) := BXW.out.cell 0
        have bc1 : V.cell? ⟨bx, 1, none⟩ = some (.int .i64 (k : Int)) := BXW.out.cell 1
        have lsx : sx < V.heap.size := blk_lt SXW.out
        have lbx : bx < V.heap.size := blk_lt BXW.out
        clear k1 k2 lg2 SXW BXW
        go_upto_region 8 with fail
        refine wp_region_noPanic ?_
        refine wp_region_held_drew (S := fun c => (c.cell? ⟨sx, 0, none⟩ = some (.slice (some ⟨fb, 0, none⟩) n cf) ∧ c.cell? ⟨sx, 1, none⟩ = some (.slice (some ⟨gq, 0, none⟩) ll cg)) ∧ c.cell? ⟨bx, 0, none⟩ = some (.int .i64 x) ∧ c.cell? ⟨bx, 1, none⟩ = some (.int .i64 (k : Int))) (by kernel_rfl) ?_ (fun hHeld => ?_)
        · exact ⟨⟨sc0, sc1⟩, bc0, bc1⟩
        have SU : Hid _ := SC.out V.drew (below_drew (Below.refl _ _))
        generalize V.drew = U at SU hHeld ⊢
        refine wpAnyH_take (i := 0) (oi := ⟨some 22, _, _, _, _, none⟩) (v := (.agg #[.slice (some ⟨fb, 0, none⟩) n cf, .slice (some ⟨gq, 0, none⟩) ll cg])) rfl (by kernel_rfl) (by kernel_rfl) (by kernel_rfl) (fun _ _ _ h => h) (Or.inl ⟨by rfl, ?_⟩) (by assumption) ?_
        · intro w hSw; (try dsimp only at hSw); have q0 : w.cell? ⟨sx, 0, none⟩ = some (.slice (some ⟨fb, 0, none⟩) n cf) := hSw.1.1; have q1 : w.cell? ⟨sx, 1, none⟩ = some (.slice (some ⟨gq, 0, none⟩) ll cg) := hSw.1.2; go_simp; (try simp)
        try simp only [Act.put, List.setIfInBounds_toArray, List.set_cons_zero, List.set_cons_succ]
        refine wpAnyH_take (i := 1) (oi := ⟨some 23, _, _, _, _, none⟩) (v := (.pointer (some ⟨bx, 0, none⟩))) rfl (by kernel_rfl) (by kernel_rfl) (by kernel_rfl) (fun _ _ _ h => h) (Or.inl ⟨by rfl, ?_⟩) (by assumption) ?_
        · intro w hSw; (try dsimp only at hSw); go_simp; (try simp); (try (simp only [IntKind.wrap_i64]; omega))
        try simp only [Act.put, List.setIfInBounds_toArray, List.set_cons_zero, List.set_cons_succ]
        refine wpAnyH_take (i := 2) (oi := ⟨some 24, _, _, _, _, none⟩) (v := (.int .i64 x)) rfl (by kernel_rfl) (by kernel_rfl) (by kernel_rfl) (fun _ _ _ h => h) (Or.inl ⟨by rfl, ?_⟩) (by assumption) ?_
        · intro w hSw; (try dsimp only at hSw); have q0 : w.cell? ⟨bx, 0, none⟩ = some (.int .i64 x) := hSw.2.1; go_simp; (try simp)
        try simp only [Act.put, List.setIfInBounds_toArray, List.set_cons_zero, List.set_cons_succ]
        refine wpAnyH_take (i := 3) (oi := ⟨some 25, _, _, _, _, none⟩) (v := (.pointer (some ⟨bx, 1, none⟩))) rfl (by kernel_rfl) (by kernel_rfl) (by kernel_rfl) (fun _ _ _ h => h) (Or.inl ⟨by rfl, ?_⟩) (by assumption) ?_
        · intro w hSw; (try dsimp only at hSw); go_simp; (try simp); (try (simp only [IntKind.wrap_i64]; omega))
        try simp only [Act.put, List.setIfInBounds_toArray, List.set_cons_zero, List.set_cons_succ]
        refine wpAnyH_take (i := 4) (oi := ⟨some 26, _, _, _, _, none⟩) (v := (.int .i64 (k : Int))) rfl (by kernel_rfl) (by kernel_rfl) (by kernel_rfl) (fun _ _ _ h => h) (Or.inl ⟨by rfl, ?_⟩) (by assumption) ?_
        · intro w hSw; (try dsimp only at hSw); have q0 : w.cell? ⟨bx, 1, none⟩ = some (.int .i64 (k : Int)) := hSw.2.2; go_simp; (try simp)
        try simp only [Act.put, List.setIfInBounds_toArray, List.set_cons_zero, List.set_cons_succ]
        refine wpAnyH_take (i := 5) (oi := ⟨some 27, _, _, _, _, none⟩) (v := .int .i64 (m : Int)) rfl (by kernel_rfl) (by kernel_rfl) (by kernel_rfl) (fun _ _ _ h => h) (Or.inl ⟨by rfl, ?_⟩) (by assumption) ?_
        · intro w hSw; (try dsimp only at hSw); go_simp; (try simp only [wA k rfl, wB k rfl])
        try simp only [Act.put, List.setIfInBounds_toArray, List.set_cons_zero, List.set_cons_succ]
        refine wpAnyH_ready (rs := [6]) (by kernel_rfl) (by simp) ?_
        refine AllReadyH.cons (o := ⟨some 28, _, _, _, _, none⟩) rfl (fun K hK => ?_) AllReadyH.nil
        go_simp
        go_wp2_with (go_at_call 37; refine Calls.mono (SU.out) ?_; rintro e v3 ⟨rfl, hK3⟩)
        have J3 : Hid _ := hK3.1
        refine hK.out _ _ hK3.2 (fun hHeld => ?_)
        clear hK K hHeld hK3 SU
        try simp only [Act.put, List.setIfInBounds_toArray, List.set_cons_zero, List.set_cons_succ]
        refine wpAnyH_done (by kernel_rfl) ?_ _
        refine NoPanic.normal ?_
        go_wp2_with fail
        go_roundw
        case rel => exact ⟨i + 1, true, by omega, by go_num, rfl, ⟨fun _ => HZ2.out.1 (by trivial), fun _ => rfl⟩, J3⟩
        case measure => simp [Go.RowKit.intOf]; omega
      have e1 : (L[i].1 == x) = false := by simp [ex]
      have APP : Hid (∃ v' W2, (Builtin.append_ #[33, 33] 33 #[u6, .slice (some ⟨wr.heap.size + 1, 0, none⟩) 1 1]).run Try.prog ((wr.alloc (.cells #[.int .i64 L[i].1, .int .i64 L[i].2] 75)).alloc (.cells #[.int .i64 L[i].1, .int .i64 L[i].2] 75)) = .ok v' W2 ∧ (Kf (fun j => j = fb ∨ base ≤ j) w2 W2 ∧ Sn W2 fb n (fun y => F y ∨ ((∃ j, j < (i + 1) ∧ (L.getD j (0, 0)).1 = x) ∧ y / 2 ^ k = p)) ∧ OB W2 base v' ((L.take (i + 1)).filter (fun q => decide (q.1 ≠ x))))) := by
        obtain ⟨g1, g2, g3⟩ := hJ.out
        have ba : Below wr.heap.size wr (wr.alloc (.cells #[.int .i64 L[i].1, .int .i64 L[i].2] 75)) := Go.Joins.below_alloc1 _ _
        have bb : Below (wr.alloc (.cells #[.int .i64 L[i].1, .int .i64 L[i].2] 75)).heap.size (wr.alloc (.cells #[.int .i64 L[i].1, .int .i64 L[i].2] 75)) ((wr.alloc (.cells #[.int .i64 L[i].1, .int .i64 L[i].2] 75)).alloc (.cells #[.int .i64 L[i].1, .int .i64 L[i].2] 75)) := Go.Joins.below_alloc1 _ _
        have rl := row_lt g3
        have g4 : OB (wr.alloc (.cells #[.int .i64 L[i].1, .int .i64 L[i].2] 75)) base u6 ((L.take i).filter (fun q => decide (q.1 ≠ x))) := row_keep g3 (fun g e => ba.block g (rl g e).2)
        have sz : base ≤ wr.heap.size := Nat.le_trans (by have := W2S.out; omega) g1.size
        obtain ⟨v', W2, r, ho, hg⟩ := app_rowB base u6 ((L.take i).filter (fun q => decide (q.1 ≠ x))) L[i] (Nat.le_trans (List.length_filter_le _ _) (by rw [List.length_take]; omega)) _ g4 (Nat.le_trans sz ba.size)
        rw [World.size_alloc] at r
        refine ⟨v', W2, r, ?_, ?_, ?_⟩
        · refine ((g1.trans (Kf.below ba)).trans (Kf.below bb)).trans (Kf.grownO hg (fun j e => Or.inr (row_lt g4 j e).1))
        · have hSn := (g2.block (ba.block fb g2.lt))
          have hSn2 := hSn.block (bb.block fb hSn.lt)
          have hSn3 := hSn2.block (hg.block fb hSn2.lt (fun e => by have := (row_lt g4 fb e.symm).1; omega))
          refine hSn3.congr (fun y => ?_)
          constructor
          · rintro (h | ⟨⟨j, h1, h2⟩, h3⟩)
            · exact Or.inl h
            · exact Or.inr ⟨⟨j, Nat.lt_succ_of_lt h1, h2⟩, h3⟩
          · rintro (h | ⟨⟨j, h1, h2⟩, h3⟩)
            · exact Or.inl h
            · refine Or.inr ⟨⟨j, ?_, h2⟩, h3⟩
              by_cases c : j = i
              · subst c; rw [getD_in iL] at h2; exact absurd h2 ex
              · exact Nat.lt_of_le_of_ne (Nat.le_of_lt_succ h1) c
        · rw [filt_yes iL ex]; exact ho
      obtain ⟨v', W2, r2, hJ2⟩ := APP.out
      have J2 : Hid _ := hJ2
      have HZ2 : Hid (z = true ↔ ∃ j, j < i + 1 ∧ (L.getD j (0, 0)).1 = x) := by
        refine hz.out.trans ⟨fun ⟨j, h1, h2⟩ => ⟨j, by omega, h2⟩, fun ⟨j, h1, h2⟩ => ⟨j, ?_, h2⟩⟩
        by_cases c : j = i
        · subst c; rw [getD_in iL] at h2; exact absurd h2 ex
        · omega
      generalize L[i].1 = y at *
      generalize L[i].2 = oo at *
      clear gi kw q1 q2 APP hJ hJ2 hz iL
      go_wp2_with (at_builtin; refine wpList_app rfl _ _ 33 rfl u6 (.slice (some ⟨wr.heap.size + 1, 0, none⟩) 1 1) rfl rfl v' W2 r2 ?_)
      go_roundw
      case rel => exact ⟨i + 1, z, by omega, by go_num, rfl, HZ2, J2⟩
      case measure => simp [Go.RowKit.intOf]; omega
    obtain rfl : i = ll := by omega
    have d1 : decide ((i : Int) < (i : Int)) = false := by simp
    have zf : z = found := by
      have e : (∃ j, j < i ∧ (L.getD j (0, 0)).1 = x) ↔ found = true := by
        constructor
        · rintro ⟨j, h1, h2⟩
          have jl : j < L.length := by have := HLL.out; omega
          rw [getD_in jl] at h2
          have gi := HG.out.one jl
          cases hf : found with
          | true => rfl
          | false => rw [h2, HNO.out hf] at gi; cases gi
        · intro h
          obtain ⟨j, jl, e2⟩ := List.getElem_of_mem ((HG.out.1 x (k : Int)).2 (HY.out h))
          exact ⟨j, by have := HLL.out; omega, by rw [getD_in jl, e2]⟩
      rw [Bool.eq_iff_iff]
      exact hz.out.trans e
    subst zf
    obtain ⟨p6, c6, hv6, r6⟩ := ob_lb hJ.out.2.2
    obtain ⟨l6, hl6⟩ : ∃ l6, l6 = (((L.take i).filter (fun q => decide (q.1 ≠ x)))).length := ⟨_, rfl⟩
    rw [← hl6] at hv6
    subst hv6
    have RBX : Hid (Blk (wr.setCell ⟨sx, 1, none⟩ (.slice p6 l6 c6)) (sx + 1) [.slice none 0 0, .slice none 0 0] 35) := (WK.out wr hJ.out.1).1.2.kf (Kf.set (S := fun j => j = sx) _ _ _ _ rfl) (by omega)
    have END : Hid (∀ W', Kf (fun j => j = sx + 1) (wr.setCell ⟨sx, 1, none⟩ (.slice p6 l6 c6)) W' → ∃ v', Ending.returned (.tuple #[.agg #[.slice (some ⟨fb, 0, none⟩) n cf, .slice p6 l6 c6], .int .i64 zc]) = .returned (.tuple #[.agg #[.slice (some ⟨fb, 0, none⟩) n cf, v'], .int .i64 zc]) ∧ Sn W' fb n (fun y => F y ∨ (z = true ∧ y / 2 ^ k = p)) ∧ LB W' w.heap.size v' (L.filter (fun q => decide (q.1 ≠ x))) ∧ Kf (fun j => j = fb) w W') := fun W' kf => by
      obtain ⟨g1, g2, g3⟩ := hJ.out
      have k1 := Kf.set (S := fun j => j = sx) wr sx 1 (.slice p6 l6 c6) rfl
      have hw := HSX.out
      refine ⟨_, rfl, ?_, ?_, ?_⟩
      · have h1 := g2.block (k1.block fb g2.lt (by omega))
        have h2 := h1.block (kf.block fb h1.lt (by omega))
        refine h2.congr (fun y => ?_)
        rw [hz.out]
      · have e : ((L.take i).filter (fun q => decide (q.1 ≠ x))) = L.filter (fun q => decide (q.1 ≠ x)) := by rw [HLL.out, List.take_length]
        have h1 := ob_lb g3
        rw [e] at h1
        exact ((h1.kf k1 (fun j h => by omega)).kf kf (fun j h => by omega)).low (by omega)
      · have h1 := (WK.out wr g1).2
        refine ⟨kf.os.trans (k1.os.trans h1.os), kf.tape.trans (k1.tape.trans h1.tape), kf.output.trans (k1.output.trans h1.output), Nat.le_trans h1.size (Nat.le_trans k1.size kf.size), fun j hj nj => ?_⟩
        have l1 := Nat.lt_of_lt_of_le hj h1.size
        rw [kf.block j (Nat.lt_of_lt_of_le l1 k1.size) (by omega), k1.block j l1 (by omega)]
        exact h1.block j hj nj
    obtain ⟨⟨bs, br⟩, _⟩ := WK.out wr hJ.out.1
    have sc0 : wr.cell? ⟨sx, 0, none⟩ = some (.slice (some ⟨fb, 0, none⟩) n cf) := bs.cell 0
    have sc1 : wr.cell? ⟨sx, 1, none⟩ = some (.slice pg i cg) := bs.cell 1
    have sf1 : wr.frozen? ⟨sx, 1, none⟩ = false := bs.free 1
    have rc0 : wr.cell? ⟨sx + 1, 0, none⟩ = some (.slice none 0 0) := br.cell 0
    have rc1 : wr.cell? ⟨sx + 1, 1, none⟩ = some (.slice none 0 0) := br.cell 1
    have rf0 : wr.frozen? ⟨sx + 1, 0, none⟩ = false := br.free 0
    have rf1 : wr.frozen? ⟨sx + 1, 1, none⟩ = false := br.free 1
    have lsx : sx < wr.heap.size := blk_lt bs
    have lrx : sx + 1 < wr.heap.size := blk_lt br
    cases z with
    | true =>
      have z0 := HZ1.out rfl
      subst z0
      clear hJ hz r6 hl6 bs br ci
      obtain ⟨hr, kf⟩ := res2 (.slice (some ⟨fb, 0, none⟩) n cf) (.slice p6 l6 c6) RBX.out
      have HR2 : Hid _ := hr
      have HK : Hid _ := kf
      clear hr kf
      go_wp2_with fail
      refine bodyPost_ret (v := .tuple #[.agg #[.slice (some ⟨fb, 0, none⟩) n cf, .slice p6 l6 c6], .int .i64 0]) (results_pair Try.results20 _ _ _ _ _ _ rfl rfl HR2.out) rfl ?_
      obtain ⟨v', h1, h2, h3, h4⟩ := END.out _ HK.out
      exact ⟨v', h1, h2.congr (fun y => by simp), (by simpa using h3), h4⟩

    | false =>
      have z0 := HZ0.out rfl
      subst z0
      clear hJ hz r6 hl6 bs br ci
      obtain ⟨hr, kf⟩ := res2 (.slice (some ⟨fb, 0, none⟩) n cf) (.slice p6 l6 c6) RBX.out
      have HR2 : Hid _ := hr
      have HK : Hid _ := kf
      clear hr kf
      go_wp2_with fail
      refine bodyPost_ret (v := .tuple #[.agg #[.slice (some ⟨fb, 0, none⟩) n cf, .slice p6 l6 c6], .int .i64 5]) (results_pair Try.results20 _ _ _ _ _ _ rfl rfl HR2.out) rfl ?_
      obtain ⟨v', h1, h2, h3, h4⟩ := END.out _ HK.out
      exact ⟨v', h1, h2.congr (fun y => by simp), (by simpa using h3), h4⟩

end Go.Proofs.Ytpjejjonkdhelaa
