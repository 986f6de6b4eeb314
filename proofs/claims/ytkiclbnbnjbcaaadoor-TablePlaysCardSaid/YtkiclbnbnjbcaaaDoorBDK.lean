/- A buddy beside other blocks of memory; ranges. -/
import Derived.Test.YtkiclbnbnjbcaaaDoorBDJ
namespace Go.Proofs.YtkiclbnbnjbcaaaDoor.Bd
open Go.ChangeShapes Go.WideShapes Go.ChangeAt Go.RowKit Go.Maps
set_option linter.unusedSimpArgs false
set_option linter.unusedVariables false
set_option maxRecDepth 8000

theorem Bd.block {w w' : World} {base b gb N : Nat} {C : List Value} {mbs : Nat → Nat} {svs : Nat → Value} {A : Nat → Int → Prop} {G : Int → Option Int} (H : Bd w base b gb N C mbs svs A G) (hs : w.heap.size ≤ w'.heap.size) (hb : ∀ j, j < w.heap.size → Ob b gb mbs svs j → w'.heap[j]? = w.heap[j]?) : Bd w' base b gb N C mbs svs A G := by
  obtain ⟨n, hn, hm⟩ := H.gm
  refine ⟨fun o ho => ?_, H.cg, ⟨n, hn, hm.block (hb gb hm.lt (Or.inr (Or.inl rfl)))⟩, H.dm, H.dg, H.ds, H.gb, Nat.le_trans H.bb hs⟩
  obtain ⟨h2, F2, n2, bl2, r⟩ := H.bs o ho
  exact ⟨h2, F2, n2, ⟨(hb b (blk_lt bl2.blk) (Or.inl rfl)).trans bl2.blk, bl2.cm, bl2.cs, row_keep bl2.own (fun g e => hb g (row_lt bl2.own g e).2 (Or.inr (Or.inr ⟨o, ho, Or.inr e⟩))), bl2.mp.block (hb _ bl2.mp.lt (Or.inr (Or.inr ⟨o, ho, Or.inl rfl⟩))), bl2.ne, bl2.nb, bl2.lb⟩, r⟩
/-- a buddy in W, by its free frames and what is given; the blocks Z are not its own -/
def Bu (Z : Nat → Prop) (W : World) (b N : Nat) (F : Nat → Prop) (G : Int → Option Int) : Prop :=
  Bnd F ∧ ∃ base gb mbs s, Bt W W base b gb mbs s N (can F) G ∧ ∀ j, Z j → j < W.heap.size ∧ ¬ Ob b gb mbs s j
theorem Bt.rest {w W : World} {base b gb N : Nat} {mbs : Nat → Nat} {svs : Nat → Value} {A : Nat → Int → Prop} {G : Int → Option Int} (H : Bt w W base b gb mbs svs N A G) : ∃ s, Bt W W base b gb mbs s N A G ∧ (∀ j, j < w.heap.size → ¬ Ob b gb mbs svs j → ¬ Ob b gb mbs s j) ∧ Kf (Ob b gb mbs svs) w W := by
  obtain ⟨C, s, h1, h2, h3⟩ := H
  refine ⟨s, Bt.refl h1, fun j hj nO e => ?_, h2⟩
  apply nO
  rcases e with e | e | ⟨o, ho, e | e⟩
  · exact Or.inl e
  · exact Or.inr (Or.inl e)
  · exact Or.inr (Or.inr ⟨o, ho, Or.inl e⟩)
  · rcases h3 o ho with q | ⟨g, q, lg⟩
    · exact Or.inr (Or.inr ⟨o, ho, Or.inr (q.symm.trans e)⟩)
    · rw [q] at e; have := Option.some.inj e; omega
theorem Kf.le {S S' : Nat → Prop} {a b : World} (h : Kf S a b) (hS : ∀ j, S j → S' j) : Kf S' a b := ⟨h.os, h.tape, h.output, h.size, fun j hj hn => h.block j hj (fun e => hn (hS j e))⟩
/-- behind a call -/
theorem Bu.of {Z : Nat → Prop} {w W : World} {base b gb N : Nat} {mbs : Nat → Nat} {svs : Nat → Value} {F : Nat → Prop} {G : Int → Option Int} (hF : Bnd F) (H : Bt w W base b gb mbs svs N (can F) G) (hZ : ∀ j, Z j → j < w.heap.size ∧ ¬ Ob b gb mbs svs j) : Bu Z W b N F G ∧ Kf (fun j => ¬ Z j) w W := by
  obtain ⟨s, B, hO, k⟩ := H.rest
  refine ⟨⟨hF, base, gb, mbs, s, B, fun j hj => ⟨Nat.lt_of_lt_of_le (hZ j hj).1 k.size, hO j (hZ j hj).1 (hZ j hj).2⟩⟩, k.le (fun j e z => (hZ j z).2 e)⟩
/-- other work: it touches no block of the buddy's; what is new is not its own -/
theorem Bu.next {Z : Nat → Prop} {W : World} {b N : Nat} {F : Nat → Prop} {G : Int → Option Int} (H : Bu Z W b N F G) {W' : World} (hs : W.heap.size ≤ W'.heap.size) (hb : ∀ j, j < W.heap.size → ¬ Z j → W'.heap[j]? = W.heap[j]?) : Bu (fun j => Z j ∨ (W.heap.size ≤ j ∧ j < W'.heap.size)) W' b N F G := by
  obtain ⟨hF, base, gb, mbs, s, ⟨C, s', h1, h2, h3⟩, hZ⟩ := H
  have nz : ∀ j, j < W.heap.size → Ob b gb mbs s' j → Ob b gb mbs s j := fun j hj e => by
    rcases e with e | e | ⟨o, ho, e | e⟩
    · exact Or.inl e
    · exact Or.inr (Or.inl e)
    · exact Or.inr (Or.inr ⟨o, ho, Or.inl e⟩)
    · rcases h3 o ho with q | ⟨g, q, lg⟩
      · exact Or.inr (Or.inr ⟨o, ho, Or.inr (q.symm.trans e)⟩)
      · rw [q] at e; have := Option.some.inj e; omega
  refine ⟨hF, base, gb, mbs, s', Bt.refl (h1.block hs (fun j hj e => hb j hj (fun z => (hZ j z).2 (nz j hj e)))), fun j hj => ?_⟩
  rcases hj with z | ⟨l1, l2⟩
  · exact ⟨Nat.lt_of_lt_of_le (hZ j z).1 hs, fun e => (hZ j z).2 (nz j (hZ j z).1 e)⟩
  · refine ⟨l2, fun e => ?_⟩
    have bb := h1.bb
    rcases e with e | e | ⟨o, ho, e | e⟩
    · have := h1.blk.2; omega
    · have := h1.gb.2; omega
    · obtain ⟨_, _, _, bl, _⟩ := h1.bs o ho
      have := bl.lb.2; omega
    · obtain ⟨_, _, _, bl, _⟩ := h1.bs o ho
      have := (row_lt bl.own _ e).2; omega
theorem Bu.less {Z Z' : Nat → Prop} {W : World} {b N : Nat} {F : Nat → Prop} {G : Int → Option Int} (H : Bu Z W b N F G) (h : ∀ j, Z' j → Z j) : Bu Z' W b N F G := by
  obtain ⟨hF, base, gb, mbs, s, B, hZ⟩ := H
  exact ⟨hF, base, gb, mbs, s, B, fun j hj => hZ j (h j hj)⟩
theorem Bu.below {Z : Nat → Prop} {W : World} {b N : Nat} {F : Nat → Prop} {G : Int → Option Int} (H : Bu Z W b N F G) {W' : World} (hb : Below W.heap.size W W') : Bu Z W' b N F G := (H.next hb.size (fun j hj _ => hb.block j hj)).less (fun j h => Or.inl h)
theorem Bu.mono {Z : Nat → Prop} {W : World} {b N : Nat} {F : Nat → Prop} {G : Int → Option Int} (H : Bu Z W b N F G) {N' : Nat} (h : N ≤ N') : Bu Z W b N' F G := by
  obtain ⟨hF, base, gb, mbs, s, B, hZ⟩ := H
  exact ⟨hF, base, gb, mbs, s, B.mono h, hZ⟩
theorem Bu.free {Z : Nat → Prop} {W : World} {b N : Nat} {F : Nat → Prop} {G : Int → Option Int} (H : Bu Z W b N F G) : Calls Tryd.prog 18 #[.pointer (some ⟨b, 0, none⟩)] W fun e w' => e = .returned (.int .i64 (cnt F 1048576 : Nat)) ∧ w' = W := by
  obtain ⟨hF, base, gb, mbs, s, B, hZ⟩ := H
  exact B.free hF
theorem Bu.give_no {Z : Nat → Prop} {W : World} {b N : Nat} {F : Nat → Prop} {G : Int → Option Int} (H : Bu Z W b N F G) {x : Int} (hx : (Lit.int .i64 x).wf = true) (hg : G x = none) : Calls Tryd.prog 74 #[.pointer (some ⟨b, 0, none⟩), .int .i64 x] W fun e w' => e = .returned (.int .i64 5) ∧ w' = W := by
  obtain ⟨hF, base, gb, mbs, s, B, hZ⟩ := H
  exact B.give_no hx hg
theorem Bu.give {Z : Nat → Prop} {W : World} {b N : Nat} {F : Nat → Prop} {G : Int → Option Int} (H : Bu Z W b N F G) (k q : Nat) (hk : k ≤ 10) (hq : q * 2 ^ k + 2 ^ k ≤ 1048576) (hd : ∀ i, i / 2 ^ k = q → ¬ F i) (hn : N < 1048576) {x : Int} (hx : x = ((q * 2 ^ k : Nat) : Int)) (hg : G x = some (k : Int)) :
    Calls Tryd.prog 74 #[.pointer (some ⟨b, 0, none⟩), .int .i64 x] W fun e w' => e = .returned (.int .i64 0) ∧ Bu Z w' b (N + 1) (fun i => F i ∨ i / 2 ^ k = q) (setF G x none) ∧ Kf (fun j => ¬ Z j) W w' := by
  obtain ⟨hF, base, gb, mbs, s, B, hZ⟩ := H
  refine (B.give hF k q hk hq hd hn hx hg).mono ?_
  rintro e w' ⟨he, h⟩
  refine ⟨he, Bu.of (fun i hi => ?_) h hZ⟩
  rcases hi with r | r
  · exact hF i r
  · have := ((in_blk k q i).1 r).2
    exact Nat.lt_of_lt_of_le this hq
/-- what a Take of order o takes: block p of that order, the lowest of the least block q of order f -/
structure Took (F : Nat → Prop) (o p : Nat) (f q d : Nat) : Prop where
  sum : o + d = f
  top : f ≤ 10
  cn : cnN F f q
  low : ∀ q', cnN F f q' → q ≤ q'
  less : ∀ k, o ≤ k → k < f → ∀ q', ¬ cnN F k q'
  at_ : p = q * 2 ^ d
theorem Took.mul {F : Nat → Prop} {o p f q d : Nat} (T : Took F o p f q d) : p * 2 ^ o = q * 2 ^ f := by
  rw [T.at_, Nat.mul_assoc, ← Nat.pow_add, Nat.add_comm d o, T.sum]
theorem Took.all {F : Nat → Prop} {o p f q d : Nat} (T : Took F o p f q d) : ∀ i, i / 2 ^ o = p → F i := fun i hi => by
  apply T.cn.1
  rw [← T.sum, div_up, hi, T.at_, Nat.mul_div_cancel _ (p2pos d)]
theorem Bu.take {Z : Nat → Prop} {W : World} {b N : Nat} {F : Nat → Prop} {G : Int → Option Int} (H : Bu Z W b N F G) (o : Nat) (ho : o ≤ 10) (hn : N + 20 < 1048576) :
    Calls Tryd.prog 80 #[.pointer (some ⟨b, 0, none⟩), .int .i64 o] W fun e w' => (e = .returned (.tuple #[.int .i64 0, .int .i64 7]) ∧ w' = W ∧ ∀ k q, o ≤ k → k ≤ 10 → ¬ cnN F k q) ∨
      ∃ p f q d : Nat, e = .returned (.tuple #[.int .i64 (p * 2 ^ o : Nat), .int .i64 0]) ∧ Took F o p f q d ∧ Bu Z w' b (N + 20) (fun i => F i ∧ ¬ i / 2 ^ o = p) (setF G (p * 2 ^ o : Nat) (some (o : Int))) ∧ Kf (fun j => ¬ Z j) W w' := by
  obtain ⟨hF, base, gb, mbs, s, B, hZ⟩ := H
  refine (take_any base b gb N mbs s (can F) G o (by omega) hn W B (can_inv hF)).mono ?_
  rintro e w' (⟨he, hw, h⟩ | ⟨f, x, he, ⟨of_, f11⟩, less, ⟨hx, low⟩, hB⟩)
  · exact Or.inl ⟨he, hw, fun k q k1 k2 c => h k k1 (by omega) _ ((can_iff k2).2 c)⟩
  · right
    obtain ⟨f10, q, rfl, hc⟩ := hx
    obtain ⟨d, rfl⟩ : ∃ d, f = o + d := ⟨f - o, by omega⟩
    have T : Took F o (q * 2 ^ d) (o + d) q d := ⟨rfl, f10, hc, fun q' c => by
      have := low _ ((can_iff f10).2 c)
      have l : q * 2 ^ (o + d) ≤ q' * 2 ^ (o + d) := Int.ofNat_le.1 this
      exact Nat.le_of_mul_le_mul_right l (p2pos _), fun k k1 k2 q' c => less k k1 k2 _ ((can_iff (by omega)).2 c), rfl⟩
    rw [take_can f10 hc d o rfl, ← T.mul] at hB
    rw [← T.mul] at he
    exact ⟨q * 2 ^ d, o + d, q, d, he, T, Bu.of (fun i hi => hF i hi.1) hB hZ⟩
/-- ranges in a block of their own -/
def Rgs (w : World) (g n : Nat) (R : Nat → Int × Int) : Prop := g < w.heap.size ∧ ∀ i, i < n → w.cell? ⟨g, i * 2, none⟩ = some (.int .i64 (R i).1) ∧ w.cell? ⟨g, i * 2 + 1, none⟩ = some (.int .i64 (R i).2)
theorem Rgs.block {w W : World} {g n : Nat} {R : Nat → Int × Int} (H : Rgs w g n R) (hs : w.heap.size ≤ W.heap.size) (e : W.heap[g]? = w.heap[g]?) : Rgs W g n R :=
  ⟨Nat.lt_of_lt_of_le H.1 hs, fun i hi => ⟨by rw [World.cell?_of_block (w := w) (a := ⟨g, i * 2, none⟩) e]; exact (H.2 i hi).1, by rw [World.cell?_of_block (w := w) (a := ⟨g, i * 2 + 1, none⟩) e]; exact (H.2 i hi).2⟩⟩
theorem Rgs.below {w W : World} {g n : Nat} {R : Nat → Int × Int} (H : Rgs w g n R) (hb : Below w.heap.size w W) : Rgs W g n R := H.block hb.size (hb.block g H.1)
def endAt (R : Nat → Int × Int) : Nat → Int
  | 0 => 0
  | n + 1 => (R n).2
/-- ranges in form -/
def Form (R : Nat → Int × Int) (n : Nat) : Prop := ∀ i, i < n → endAt R i ≤ (R i).1 ∧ (R i).1 < (R i).2 ∧ (R i).2 ≤ 1048576
theorem below_none {w w' : World} (h : w.grownBy w' none) : Below w.heap.size w w' := ⟨h.os, h.tape, h.output, h.size, fun k hk => h.block k hk (by simp)⟩
set_option maxHeartbeats 2000000 in
theorem inform_any (g n c : Nat) (R : Nat → Int × Int) (z : Bool) (hz : z = true ↔ Form R n) (hn : n ≤ 1000) (w : World) (H : Rgs w g n R) :
    Calls Tryd.prog 65 #[.slice (some ⟨g, 0, none⟩) n c] w fun e w' => e = .returned (.bool z) ∧ Below w.heap.size w w' := by
  have HZ : Hid (z = true ↔ Form R n) := hz
  clear hz
  have HH : Hid (Rgs w g n R) := H
  clear H
  go_enter Tryd.func65, Tryd.ntmps65
  go_wp2_with fail
  go_loopw [3, 8] (fun v i wr => ∃ j : Nat, j ≤ n ∧ i = .int .i64 j ∧ v = .int .i64 (endAt R j) ∧ Hid (Below w.heap.size w wr) ∧ Hid (Form R j)) (fun _ i _ => n - (Go.RowKit.intOf i).toNat)
  case atStart => exact ⟨0, by omega, rfl, rfl, Below.refl _ _, fun i hi => absurd hi (Nat.not_lt_zero _)⟩
  case round =>
    obtain ⟨j, hj, rfl, rfl, hb, hF⟩ := hrel
    by_cases cj : j < n
    rotate_left
    · obtain rfl : j = n := by omega
      have d1 : decide ((j : Int) < (j : Int)) = false := by simp
      go_wp2_with fail
      go_ret
      exact ⟨by rw [HZ.out.2 hF.out]; rfl, hb.out⟩
    have dj : decide ((j : Int) < (n : Int)) = true := by simp; omega
    have d0 : decide ((j : Int) < 0) = false := by simp
    have RR := HH.out.below hb.out
    obtain ⟨q1, q2⟩ := RR.2 j cj
    have lg := RR.1
    have NX : Hid (Form R (j + 1) ↔ endAt R j ≤ (R j).1 ∧ (R j).1 < (R j).2 ∧ (R j).2 ≤ 1048576) := by
      constructor
      · intro h; exact h j (by omega)
      · intro h i hi
        by_cases e : i = j
        · subst e; exact h
        · exact hF.out i (by omega)
    have NO : Hid (¬ (endAt R j ≤ (R j).1 ∧ (R j).1 < (R j).2 ∧ (R j).2 ≤ 1048576) → ¬ Form R n) := fun h h2 => h (h2 j cj)
    have EN : Hid (endAt R (j + 1) = (R j).2) := rfl
    generalize endAt R j = en at *
    generalize (R j).1 = f at *
    generalize ht : (R j).2 = t at *
    clear RR hF ht
    by_cases c0 : f < en
    · have e0 : decide (f < en) = true := by simp [c0]
      go_wp2_with fail
      go_ret
      have zf : z = false := by
        cases z with
        | false => rfl
        | true => exact absurd (HZ.out.1 rfl) (NO.out (by omega))
      exact ⟨by rw [zf]; rfl, hb.out.alloc hb.out.size _⟩
    have e0 : decide (f < en) = false := by simp; omega
    by_cases c1 : t ≤ f
    · have e1 : decide (t ≤ f) = true := by simp [c1]
      go_wp2_with fail
      go_ret
      have zf : z = false := by
        cases z with
        | false => rfl
        | true => exact absurd (HZ.out.1 rfl) (NO.out (by omega))
      exact ⟨by rw [zf]; rfl, hb.out.alloc hb.out.size _⟩
    have e1 : decide (t ≤ f) = false := by simp; omega
    by_cases c2 : 1048576 < t
    · have e2 : decide (1048576 < t) = true := by simp [c2]
      go_wp2_with fail
      go_ret
      have zf : z = false := by
        cases z with
        | false => rfl
        | true => exact absurd (HZ.out.1 rfl) (NO.out (by omega))
      exact ⟨by rw [zf]; rfl, hb.out.alloc hb.out.size _⟩
    have e2 : decide (1048576 < t) = false := by simp; omega
    have FF : Hid (Form R (j + 1)) := NX.out.2 (by omega)
    go_wp2_with fail
    go_roundw
    case rel => exact ⟨j + 1, by omega, by go_num, by rw [EN.out], hb.out.alloc hb.out.size _, FF⟩
    case measure => simp [Go.RowKit.intOf]; omega
end Go.Proofs.YtkiclbnbnjbcaaaDoor.Bd
