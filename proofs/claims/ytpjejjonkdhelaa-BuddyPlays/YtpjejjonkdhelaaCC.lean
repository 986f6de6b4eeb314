/- The document's buddy: New. -/
import Derived.Test.YtpjejjonkdhelaaCB
namespace Go.Proofs.Ytpjejjonkdhelaa
open Go.ChangeShapes Go.WideShapes Go.ChangeAt Go.RowKit Go.Maps
set_option linter.unusedSimpArgs false
set_option linter.unusedVariables false
set_option maxRecDepth 8000

theorem results_one {fn : Func} {p : Tmp} {t : TypeId} (h : fn.results = #[.cell p t]) (tmps : Array Value) (P : Program) (w : World) (a : Addr) (x : Value)
    (ha : tmps.getD p undef = .pointer (some a)) (hx : (loadVar t a).run P w = .ok x w) : (results fn tmps).run P w = .ok x w := by
  simp only [results, h]
  have e1 : ∀ W : World, (asAddr (Value.pointer (some a))).run P W = .ok a W := fun _ => rfl
  simp at ha
  simp [Sem.run_bind, Result.andThen, ha, e1, hx]
theorem results_pair {fn : Func} {p q : Tmp} {t : TypeId} (h : fn.results = #[.cell p t, .tmp q]) (tmps : Array Value) (P : Program) (w : World) (a : Addr) (x y : Value)
    (ha : tmps.getD p undef = .pointer (some a)) (hb : tmps.getD q undef = y) (hx : (loadVar t a).run P w = .ok x w) :
    (results fn tmps).run P w = .ok (.tuple #[x, y]) w := by
  simp only [results, h]
  have e1 : ∀ W : World, (asAddr (Value.pointer (some a))).run P W = .ok a W := fun _ => rfl
  simp at ha hb
  simp [Sem.run_bind, Result.andThen, ha, hb, e1, hx]
theorem results_tri {fn : Func} {p q q2 : Tmp} {t : TypeId} (h : fn.results = #[.cell p t, .tmp q, .tmp q2]) (tmps : Array Value) (P : Program) (w : World) (a : Addr) (x y z : Value)
    (ha : tmps.getD p undef = .pointer (some a)) (hb : tmps.getD q undef = y) (hc : tmps.getD q2 undef = z) (hx : (loadVar t a).run P w = .ok x w) :
    (results fn tmps).run P w = .ok (.tuple #[x, y, z]) w := by
  simp only [results, h]
  have e1 : ∀ W : World, (asAddr (Value.pointer (some a))).run P W = .ok a W := fun _ => rfl
  simp at ha hb hc
  simp [Sem.run_bind, Result.andThen, ha, hb, hc, e1, hx]
/-- a state is stored into a result's box -/
theorem res2 {V : World} {rb : Nat} {a b : Value} (x y : Value) (H : Blk V rb [a, b] 35) : (loadVar 35 ⟨rb, 0, none⟩).run Try.prog ((V.setCell ⟨rb, 0, none⟩ x).setCell ⟨rb, 1, none⟩ y) = .ok (.agg #[x, y]) ((V.setCell ⟨rb, 0, none⟩ x).setCell ⟨rb, 1, none⟩ y) ∧ Kf (fun j => j = rb) V ((V.setCell ⟨rb, 0, none⟩ x).setCell ⟨rb, 1, none⟩ y) := by
  have h1 : Blk (V.setCell ⟨rb, 0, none⟩ x) rb [x, b] 35 := H.set 0 x
  have h2 : Blk ((V.setCell ⟨rb, 0, none⟩ x).setCell ⟨rb, 1, none⟩ y) rb [x, y] 35 := h1.set 1 y
  exact ⟨run_loadVar_mid (P := Try.prog) _ rb 0 35 [x, y] _ h2.range Try.underlying35 rfl (by kernel_rfl), (Kf.set (S := fun j => j = rb) V rb 0 x rfl).trans (Kf.set (S := fun j => j = rb) _ rb 1 y rfl)⟩
theorem Blk.kf {w W : World} {b : Nat} {C : List Value} {t : TypeId} {S : Nat → Prop} (h : Blk w b C t) (k : Kf S w W) (n : ¬ S b) : Blk W b C t := (k.block b (blk_lt h) n).trans h
def upK (x : Nat) : Nat := (x + 1023) / 1024 * 1024
set_option maxHeartbeats 4000000 in
theorem rnew_any (g m c : Nat) (R : Nat → Int × Int) (hm : m ≤ 64) (hF : Form R m) (hl : ∀ i, i < m → (R i).2 ≤ 6000) (w : World) (H : Rgs w g m R) :
    Calls Try.prog 14 #[.slice (some ⟨g, 0, none⟩) m c] w fun e w' => ∃ fb nn, e = .returned (.agg #[.slice (some ⟨fb, 0, none⟩) nn nn, .slice none 0 0]) ∧ Sn w' fb nn (RU R m) ∧ w.heap.size ≤ fb ∧ (∃ e, nn = e * 1024) ∧ nn ≤ 6144 ∧ (∀ i, RU R m i → i < nn) ∧ Below w.heap.size w w' := by
  have HH : Hid (Rgs w g m R) := H
  have HF : Hid (Form R m) := hF
  have HL : Hid (∀ i, i < m → (R i).2 ≤ 6000) := hl
  have b0 : Below w.heap.size w (w.alloc (.cells #[.slice none 0 0, .slice none 0 0] 35)) := Go.Joins.below_alloc1 _ _
  have B0 : Hid (Below w.heap.size w (w.alloc (.cells #[.slice none 0 0, .slice none 0 0] 35))) := b0
  have ow : Blk (w.alloc (.cells #[.slice none 0 0, .slice none 0 0] 35)) w.heap.size [.slice none 0 0, .slice none 0 0] 35 := own1 w _
  have OW : Hid (Blk (w.alloc (.cells #[.slice none 0 0, .slice none 0 0] 35)) w.heap.size [.slice none 0 0, .slice none 0 0] 35) := ow
  clear H hF hl b0 ow
  go_enter Try.func14, Try.ntmps14
  go_upto_region 1 with fail
  generalize w.alloc (.cells #[.slice none 0 0, .slice none 0 0] 35) = w1 at *
  obtain ⟨rb, hrb⟩ : ∃ rb, w.heap.size = rb := ⟨_, rfl⟩
  have HRB : Hid (w.heap.size = rb) := hrb
  rw [hrb] at OW ⊢
  clear hrb
  go_wp2_with fail
  go_loopw [3, 5, 12] (fun vn _ vi W => ∃ j : Nat, j ≤ m ∧ vi = .int .i64 j ∧ vn = .int .i64 (upK (endAt R j).toNat : Nat) ∧ Hid (Below w1.heap.size w1 W)) (fun _ _ vi _ => m - (Go.RowKit.intOf vi).toNat)
  case atStart => exact ⟨0, by omega, rfl, by simp [endAt, upK], Below.refl _ _⟩
  case round =>
    obtain ⟨j, hj, rfl, rfl, hb⟩ := hrel
    have BW : Hid (Below w.heap.size w wr) := B0.out.trans (hb.out.mono B0.out.size)
    by_cases cj : j < m
    · have d1 : decide ((j : Int) < (m : Int)) = true := by simp; omega
      have d0 : decide ((j : Int) < 0) = false := by simp
      have RR := HH.out.below BW.out
      obtain ⟨q1, q2⟩ := RR.2 j cj
      have lg := RR.1
      have fo := HF.out j cj
      have ep := end_pos HF.out j hj
      have l6 := HL.out j cj
      obtain ⟨t, ht⟩ : ∃ t : Nat, (R j).2 = (t : Int) := ⟨(R j).2.toNat, by omega⟩
      have t9 : t ≤ 6000 := by omega
      rw [ht] at q2
      obtain ⟨y, hy⟩ : ∃ y : Nat, y = (t + 1023) / 1024 := ⟨_, rfl⟩
      have td : ((t : Int) + 1023).tdiv 1024 = (y : Int) := by rw [Int.tdiv_eq_ediv_of_nonneg (by omega)]; omega
      have y9 : y ≤ 6 := by omega
      have NX : Hid (((upK (endAt R (j + 1)).toNat : Nat) : Int) = (y : Int) * 1024) := by
        show ((upK (R j).2.toNat : Nat) : Int) = (y : Int) * 1024
        unfold upK
        rw [ht, hy]
        simp
      generalize (R j).1 = f at *
      clear RR fo ep l6 ht hy
      go_wp2_with fail
      go_roundw
      case rel => exact ⟨j + 1, by omega, by go_num, by rw [NX.out], hb.out.alloc hb.out.size _⟩
      case measure => simp [Go.RowKit.intOf]; omega
    obtain rfl : j = m := by omega
    have d1 : decide ((j : Int) < (j : Int)) = false := by simp
    have ep := end_pos HF.out j (Nat.le_refl _)
    have e6 : endAt R j ≤ 6000 := by
      cases j with
      | zero => show (0 : Int) ≤ 6000; omega
      | succ j => exact HL.out j (by omega)
    obtain ⟨nn, hnn⟩ : ∃ nn, nn = upK (endAt R j).toNat := ⟨_, rfl⟩
    have nfacts : nn ≤ 6144 ∧ (endAt R j).toNat ≤ nn ∧ ∃ e, nn = e * 1024 := by
      rw [hnn]; unfold upK
      exact ⟨by omega, by omega, _, rfl⟩
    rw [← hnn]
    obtain ⟨w3, mk, hSn, b3, z3⟩ := sn_make nn (by omega) wr
    obtain ⟨fb, hfb⟩ : ∃ fb, fb = wr.heap.size := ⟨_, rfl⟩
    obtain ⟨sx, hsx⟩ : ∃ sx, sx = w3.heap.size := ⟨_, rfl⟩
    have HNN : Hid (nn ≤ 6144 ∧ (∀ i, RU R j i → i < nn) ∧ ∃ e, nn = e * 1024) := ⟨nfacts.1, fun i hi => by have := ru_lt HF.out (Nat.le_refl _) hi; omega, nfacts.2.2⟩
    rw [← hfb] at mk hSn
    have mk' : Sem.run Try.prog (Instr.makeSlice 32 (.int .i64 nn) (.int .i64 nn)) wr = .ok (.slice (some ⟨fb, 0, none⟩) nn nn) w3 := mk
    have ordr : rb < fb ∧ fb < sx := by
      have h1 := blk_lt OW.out
      have h2 := hb.out.size
      omega
    have N0 : Hid (Below w.heap.size w (w3.alloc (.cells #[.slice (some ⟨fb, 0, none⟩) nn nn, .slice none 0 0] 35)) ∧ Sn (w3.alloc (.cells #[.slice (some ⟨fb, 0, none⟩) nn nn, .slice none 0 0] 35)) fb nn (RU R 0) ∧ Blk (w3.alloc (.cells #[.slice (some ⟨fb, 0, none⟩) nn nn, .slice none 0 0] 35)) sx [.slice (some ⟨fb, 0, none⟩) nn nn, .slice none 0 0] 35 ∧ Blk (w3.alloc (.cells #[.slice (some ⟨fb, 0, none⟩) nn nn, .slice none 0 0] 35)) rb [.slice none 0 0, .slice none 0 0] 35) := by
      have b4 : Below w3.heap.size w3 (w3.alloc (.cells #[.slice (some ⟨fb, 0, none⟩) nn nn, .slice none 0 0] 35)) := Go.Joins.below_alloc1 _ _
      refine ⟨(BW.out.trans (b3.mono BW.out.size)).trans (b4.mono (Nat.le_trans BW.out.size b3.size)), ?_, ?_, ?_⟩
      · rw [ru_none]; exact hSn.block (b4.block fb hSn.lt)
      · rw [hsx]; exact own1 w3 _
      · exact ((OW.out.below hb.out).below b3).below b4
    clear hnn ep e6 nfacts hSn b3 z3 mk hfb cj hb BW
    go_upto_region 8 with fail
    rw [← hsx]
    generalize w3.alloc (.cells #[.slice (some ⟨fb, 0, none⟩) nn nn, .slice none 0 0] 35) = w4 at N0 ⊢
    clear mk' hsx
    go_wp2_with fail
    go_loopw [8, 9, 27] (fun _ _ vi W => ∃ i : Nat, i ≤ j ∧ vi = .int .i64 i ∧ Hid (Below w.heap.size w W ∧ Sn W fb nn (RU R i) ∧ Blk W sx [.slice (some ⟨fb, 0, none⟩) nn nn, .slice none 0 0] 35 ∧ Blk W rb [.slice none 0 0, .slice none 0 0] 35)) (fun _ _ vi _ => j - (Go.RowKit.intOf vi).toNat)
    case atStart => exact ⟨0, by omega, rfl, N0⟩
    case round =>
      clear N0
      obtain ⟨i, hi, rfl, hN⟩ := hrel
      by_cases ci : i < j
      rotate_left
      · obtain rfl : i = j := by omega
        have d2 : decide ((i : Int) < (i : Int)) = false := by simp
        obtain ⟨n1, n2, n3, n4⟩ := hN.out
        have sc0 : wr.cell? ⟨sx, 0, none⟩ = some (.slice (some ⟨fb, 0, none⟩) nn nn) := n3.cell 0
        have sc1 : wr.cell? ⟨sx, 1, none⟩ = some (.slice none 0 0) := n3.cell 1
        have rc0 : wr.cell? ⟨rb, 0, none⟩ = some (.slice none 0 0) := n4.cell 0
        have rc1 : wr.cell? ⟨rb, 1, none⟩ = some (.slice none 0 0) := n4.cell 1
        have rf0 : wr.frozen? ⟨rb, 0, none⟩ = false := n4.free 0
        have rf1 : wr.frozen? ⟨rb, 1, none⟩ = false := n4.free 1
        have ls : sx < wr.heap.size := blk_lt n3
        have lr : rb < wr.heap.size := blk_lt n4
        obtain ⟨hr, kf⟩ := res2 (.slice (some ⟨fb, 0, none⟩) nn nn) (.slice none 0 0) n4
        have HR2 : Hid _ := hr
        have HK : Hid _ := kf
        clear n1 n2 n3 n4 hr kf
        go_wp2_with fail
        refine bodyPost_ret (v := .agg #[.slice (some ⟨fb, 0, none⟩) nn nn, .slice none 0 0]) (results_one Try.results14 _ _ _ _ _ rfl HR2.out) rfl ?_
        obtain ⟨n1, n2, n3, n4⟩ := hN.out
        have hw := HRB.out
        refine ⟨fb, nn, rfl, n2.block (HK.out.block fb n2.lt (by omega)), by omega, HNN.out.2.2, HNN.out.1, HNN.out.2.1, ?_⟩
        exact n1.trans ⟨HK.out.os, HK.out.tape, HK.out.output, HK.out.size, fun x hx => HK.out.block x (Nat.lt_of_lt_of_le hx n1.size) (by omega)⟩
      have d2 : decide ((i : Int) < (j : Int)) = true := by simp; omega
      have d0 : decide ((i : Int) < 0) = false := by simp
      have RR := HH.out.below hN.out.1
      obtain ⟨q1, q2⟩ := RR.2 i ci
      have lg := RR.1
      have fo := HF.out i ci
      have ep := end_pos HF.out i hi
      obtain ⟨f, hf⟩ : ∃ f : Nat, (R i).1 = (f : Int) := ⟨(R i).1.toNat, by omega⟩
      obtain ⟨t, ht⟩ : ∃ t : Nat, (R i).2 = (t : Int) := ⟨(R i).2.toNat, by omega⟩
      have tn : t ≤ nn := by
        have h1 := end_mono HF.out j i ci (Nat.le_refl _)
        have h2 : t = 0 ∨ RU R j (t - 1) := by
          by_cases c : t = 0
          · exact Or.inl c
          · exact Or.inr ⟨i, ci, by omega, by omega⟩
        rcases h2 with h2 | h2
        · omega
        · have := HNN.out.2.1 _ h2; omega
      have ft : f < t := by omega
      have SG : Hid (seg (RU R i) f t = RU R (i + 1)) := ru_seg hf ht
      have n9 := HNN.out.1
      rw [hf] at q1
      rw [ht] at q2
      have ba : Below wr.heap.size wr (wr.alloc (.cells #[.int .i64 (f : Int), .int .i64 (t : Int)] 59)) := Go.Joins.below_alloc1 _ _
      have NA : Hid ((Below w.heap.size w (wr.alloc (.cells #[.int .i64 (f : Int), .int .i64 (t : Int)] 59)) ∧ Sn (wr.alloc (.cells #[.int .i64 (f : Int), .int .i64 (t : Int)] 59)) fb nn (seg (RU R i) f f) ∧ Blk (wr.alloc (.cells #[.int .i64 (f : Int), .int .i64 (t : Int)] 59)) sx [.slice (some ⟨fb, 0, none⟩) nn nn, .slice none 0 0] 35 ∧ Blk (wr.alloc (.cells #[.int .i64 (f : Int), .int .i64 (t : Int)] 59)) rb [.slice none 0 0, .slice none 0 0] 35) ∧ Blk (wr.alloc (.cells #[.int .i64 (f : Int), .int .i64 (t : Int)] 59)) wr.heap.size [.int .i64 (f : Int), .int .i64 (t : Int)] 59) := by
        obtain ⟨n1, n2, n3, n4⟩ := hN.out
        refine ⟨⟨n1.trans (ba.mono n1.size), ?_, n3.below ba, n4.below ba⟩, own1 wr _⟩
        rw [seg_none]; exact n2.block (ba.block fb n2.lt)
      have lx : sx < wr.heap.size := blk_lt hN.out.2.2.1
      obtain ⟨bx, hbx⟩ : ∃ bx, bx = wr.heap.size := ⟨_, rfl⟩
      rw [← hbx] at NA lx
      clear RR fo ep hf ht ba hN
      go_upto_region 11 with fail
      rw [← hbx]
      generalize wr.alloc (.cells #[.int .i64 (f : Int), .int .i64 (t : Int)] 59) = w5 at NA ⊢
      have bc0 : w5.cell? ⟨bx, 0, none⟩ = some (.int .i64 (f : Int)) := NA.out.2.cell 0
      have lbx : bx < w5.heap.size := blk_lt NA.out.2
      clear q1 q2 hbx
      go_wp2_with fail
      clear bc0 lbx
      go_loopw [9] (fun v W => ∃ x : Nat, f ≤ x ∧ x ≤ t ∧ v = .int .i64 x ∧ Hid ((Below w.heap.size w W ∧ Sn W fb nn (seg (RU R i) f x) ∧ Blk W sx [.slice (some ⟨fb, 0, none⟩) nn nn, .slice none 0 0] 35 ∧ Blk W rb [.slice none 0 0, .slice none 0 0] 35) ∧ Blk W bx [.int .i64 (f : Int), .int .i64 (t : Int)] 59)) (fun v _ => t - (Go.RowKit.intOf v).toNat)
      case atStart => exact ⟨f, Nat.le_refl _, by omega, rfl, NA⟩
      case round =>
        clear NA
        obtain ⟨x, fx, xt, rfl, hN⟩ := hrel
        obtain ⟨⟨n1, n2, n3, n4⟩, n5⟩ := hN.out
        have bc1 : wr.cell? ⟨bx, 1, none⟩ = some (.int .i64 (t : Int)) := n5.cell 1
        have lbx : bx < wr.heap.size := blk_lt n5
        by_cases cx : x < t
        rotate_left
        · obtain rfl : x = t := by omega
          have d3 : decide ((x : Int) < (x : Int)) = false := by simp
          have N2 : Hid (Below w.heap.size w wr ∧ Sn wr fb nn (RU R (i + 1)) ∧ Blk wr sx [.slice (some ⟨fb, 0, none⟩) nn nn, .slice none 0 0] 35 ∧ Blk wr rb [.slice none 0 0, .slice none 0 0] 35) := by
            rw [← SG.out]; exact ⟨n1, n2, n3, n4⟩
          clear n1 n2 n3 n4 n5 hN
          go_wp2_with fail
          go_roundw
          case rel => exact ⟨i + 1, by omega, by go_num, N2⟩
          case measure => simp [Go.RowKit.intOf]; omega
        have d3 : decide ((x : Int) < (t : Int)) = true := by simp; omega
        have d4 : decide ((x : Int) < 0) = false := by simp
        have d5 : decide ((x : Int) < (nn : Int)) = true := by simp; omega
        obtain ⟨⟨v0, c0⟩, f0⟩ := n2.there (i := x) (by omega)
        have lb := n2.lt
        have sc0 : wr.cell? ⟨sx, 0, none⟩ = some (.slice (some ⟨fb, 0, none⟩) nn nn) := n3.cell 0
        have ls : sx < wr.heap.size := blk_lt n3
        have kf := Kf.set (S := fun j => j = fb) wr fb x (.bool true) rfl
        have N2 : Hid ((Below w.heap.size w (wr.setCell ⟨fb, x, none⟩ (.bool true)) ∧ Sn (wr.setCell ⟨fb, x, none⟩ (.bool true)) fb nn (seg (RU R i) f (x + 1)) ∧ Blk (wr.setCell ⟨fb, x, none⟩ (.bool true)) sx [.slice (some ⟨fb, 0, none⟩) nn nn, .slice none 0 0] 35 ∧ Blk (wr.setCell ⟨fb, x, none⟩ (.bool true)) rb [.slice none 0 0, .slice none 0 0] 35) ∧ Blk (wr.setCell ⟨fb, x, none⟩ (.bool true)) bx [.int .i64 (f : Int), .int .i64 (t : Int)] 59) := by
          have hw := HRB.out
          refine ⟨⟨n1.trans ⟨kf.os, kf.tape, kf.output, kf.size, fun y hy => kf.block y (Nat.lt_of_lt_of_le hy n1.size) (by omega)⟩, n2.put (by omega) true (fun y hy => ?_) ?_, n3.kf kf (by omega), n4.kf kf (by omega)⟩, n5.kf kf (by omega)⟩
          · unfold seg
            rw [show (f ≤ y ∧ y < x + 1) ↔ (f ≤ y ∧ y < x) by omega]
          · exact ⟨fun _ => rfl, fun _ => Or.inr ⟨fx, Nat.lt_succ_self x⟩⟩
        clear n1 n2 n3 n4 n5 hN kf
        go_wp2_with fail
        go_roundw
        case rel => exact ⟨x + 1, by omega, by omega, by go_num, N2⟩
        case measure => simp [Go.RowKit.intOf]; omega
end Go.Proofs.Ytpjejjonkdhelaa
