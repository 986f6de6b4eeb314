/- A buddy: New. -/
import Derived.Test.YtkiclbnbnjbcaaaDoorBDK
namespace Go.Proofs.YtkiclbnbnjbcaaaDoor.Bd
open Go.ChangeShapes Go.WideShapes Go.ChangeAt Go.RowKit Go.Maps
set_option linter.unusedSimpArgs false
set_option linter.unusedVariables false
set_option maxRecDepth 8000

theorem MapC.here {w : World} {b : Nat} (h : w.heap[b]? = some (.map #[] 0)) : MapC w b 0 0 noneF :=
  ⟨.map [], ⟨#[], 0, h, ⟨by simp, MapKept.stamped_empty 0, by simp⟩, by simp, rfl⟩, rfl, fun k => ⟨rfl, rfl⟩⟩
theorem Bu.lay {Z : Nat → Prop} {W : World} {b N : Nat} {F : Nat → Prop} {G : Int → Option Int} (H : Bu Z W b N F G) (f t : Nat) (ft : f ≤ t) (t9 : t ≤ 1048576) (hd : ∀ i, f ≤ i → i < t → ¬ F i) (hn : N + (t - f) ≤ 1048576) :
    Calls Tryd.prog 66 #[.pointer (some ⟨b, 0, none⟩), .agg #[.int .i64 f, .int .i64 t]] W fun e w' => e = .returned (.tuple #[]) ∧ Bu Z w' b (N + (t - f)) (seg F f t) G ∧ Kf (fun j => ¬ Z j) W w' := by
  obtain ⟨hF, base, gb, mbs, s, B, hZ⟩ := H
  refine (lay_any base b gb N mbs s F G f t ft t9 hd hF hn W B).mono ?_
  rintro e w' ⟨he, h⟩
  exact ⟨he, Bu.of (seg_bnd hF f t9) h hZ⟩
/-- a buddy in the making: k of its eleven maps are there -/
structure Mk (w1 W : World) (k : Nat) : Prop where
  bl : Below w1.heap.size w1 W
  size : W.heap.size = w1.heap.size + 2 + k
  mg : W.heap[w1.heap.size]? = some (.map #[] 0)
  ms : ∀ o, o < k → W.heap[w1.heap.size + 2 + o]? = some (.map #[] 0)
  blk : ∃ C, Blk W (w1.heap.size + 1) C 113 ∧ C.length = 23 ∧ C[22]? = some (.map (some w1.heap.size)) ∧ (∀ o, o < 11 → C[o * 2 + 1]? = some (.slice none 0 0)) ∧ ∀ o, o < k → C[o * 2]? = some (.map (some (w1.heap.size + 2 + o)))
theorem Mk.cell {w1 W : World} {k : Nat} (H : Mk w1 W k) (o : Nat) (ho : o < 23) : (∃ v, W.cell? ⟨w1.heap.size + 1, o, none⟩ = some v) ∧ W.frozen? ⟨w1.heap.size + 1, o, none⟩ = false ∧ w1.heap.size + 1 < W.heap.size := by
  obtain ⟨C, hB, hl, _⟩ := H.blk
  exact ⟨⟨C[o]'(by omega), by rw [hB.cell, List.getElem?_eq_getElem]⟩, hB.free o, blk_lt hB⟩
theorem Mk.step {w1 W : World} {k : Nat} (H : Mk w1 W k) (hk : k < 11) : Mk w1 ((W.alloc (.map #[] 0)).setCell ⟨w1.heap.size + 1, k * 2, none⟩ (.map (some W.heap.size))) (k + 1) := by
  have bA : Below W.heap.size W (W.alloc (.map #[] 0)) := Go.Joins.below_alloc1 _ _
  have sz := H.size
  have kf := Kf.set (S := fun j => j = w1.heap.size + 1) (W.alloc (.map #[] 0)) (w1.heap.size + 1) (k * 2) (.map (some W.heap.size)) rfl
  have keep : ∀ j, j < W.heap.size → j ≠ w1.heap.size + 1 → ((W.alloc (.map #[] 0)).setCell ⟨w1.heap.size + 1, k * 2, none⟩ (.map (some W.heap.size))).heap[j]? = W.heap[j]? := fun j hj n => (kf.block j (by rw [World.size_alloc]; omega) n).trans (bA.block j hj)
  obtain ⟨C, hB, hl, h22, ho, he⟩ := H.blk
  have s2 : ((W.alloc (.map #[] 0)).setCell ⟨w1.heap.size + 1, k * 2, none⟩ (.map (some W.heap.size))).heap.size = W.heap.size + 1 := by
    rw [World.size_setCell, World.size_alloc]
  refine ⟨⟨kf.os.trans (bA.os.trans H.bl.os), kf.tape.trans (bA.tape.trans H.bl.tape), kf.output.trans (bA.output.trans H.bl.output), by rw [s2]; omega, fun j hj => (keep j (by omega) (by omega)).trans (H.bl.block j hj)⟩, by rw [s2]; omega, (keep _ (by omega) (by omega)).trans H.mg, fun o ho => ?_, ?_⟩
  · by_cases c : o = k
    · subst c
      have e : w1.heap.size + 2 + o = W.heap.size := by omega
      rw [e, kf.block _ (by rw [World.size_alloc]; omega) (by omega)]
      exact own1 W _
    · exact (keep _ (by omega) (by omega)).trans (H.ms o (by omega))
  · refine ⟨C.set (k * 2) (.map (some W.heap.size)), (hB.below bA).set _ _, by simp [hl], ?_, fun o h => ?_, fun o h => ?_⟩
    · rw [List.getElem?_set_ne (by omega)]; exact h22
    · rw [List.getElem?_set_ne (by omega)]; exact ho o h
    · by_cases c : o = k
      · subst c
        rw [List.getElem?_set_self (by omega), sz]
      · rw [List.getElem?_set_ne (by omega)]; exact he o (by omega)
theorem can_none (o : Nat) (a : Int) : ¬ can (fun _ => False) o a := fun ⟨_, q, _, h⟩ => h.1 _ (blk_ne o q)
theorem Mk.bu {w1 W : World} (H : Mk w1 W 11) : Bu (fun j => j < w1.heap.size) W (w1.heap.size + 1) 0 (fun _ => False) noneF := by
  obtain ⟨C, hB, hl, h22, ho, he⟩ := H.blk
  have sz := H.size
  refine ⟨fun i h => h.elim, w1.heap.size + 13, w1.heap.size, fun o => w1.heap.size + 2 + o, fun _ => .slice none 0 0, Bt.refl (C := C) ⟨fun o ho' => ?_, h22, ⟨0, Nat.le_refl _, MapC.here H.mg⟩, (fun o o' _ _ n => by show w1.heap.size + 2 + o ≠ w1.heap.size + 2 + o'; omega), (fun o _ => by show w1.heap.size + 2 + o ≠ _; omega), (fun o o' _ _ _ g e => by cases e), ⟨by omega, by omega⟩, by omega⟩, fun j hj => ⟨by omega, ?_⟩⟩
  · refine ⟨[], noneF, 0, ⟨hB, he o ho', ho o ho', ⟨rfl, Or.inl ⟨rfl, rfl⟩⟩, MapC.here (H.ms o ho'), by omega, (fun g e => by cases e), ⟨by omega, by omega⟩⟩, ⟨fun k hk => absurd hk (Nat.not_lt_zero _), (fun a k e => by cases e), fun a ha => absurd ha List.not_mem_nil⟩, fun k k0 km => absurd km (Nat.not_lt_zero _), ⟨Nat.le_refl _, Nat.le_refl _⟩, fun a => ⟨fun h => absurd h List.not_mem_nil, fun h => absurd h (can_none o a)⟩⟩
  · rintro (e | e | ⟨o, ho, e | e⟩)
    · have hj' : j < w1.heap.size := hj
      omega
    · have hj' : j < w1.heap.size := hj
      omega
    · have hj' : j < w1.heap.size := hj
      have e' : j = w1.heap.size + 2 + o := e
      omega
    · cases e
/-- the frames of the first j ranges -/
def RU (R : Nat → Int × Int) (j : Nat) : Nat → Prop := fun i => ∃ m, m < j ∧ (R m).1 ≤ (i : Int) ∧ (i : Int) < (R m).2
theorem ru_none (R : Nat → Int × Int) : RU R 0 = fun _ => False := by
  funext i; apply propext
  exact ⟨fun ⟨m, h, _⟩ => absurd h (Nat.not_lt_zero _), fun h => False.elim h⟩
theorem end_mono {R : Nat → Int × Int} {n : Nat} (H : Form R n) : ∀ j m, m < j → j ≤ n → (R m).2 ≤ endAt R j
  | 0, m, h, _ => absurd h (Nat.not_lt_zero _)
  | j + 1, m, h, hj => by
    by_cases c : m = j
    · subst c; exact Int.le_refl _
    · have := end_mono H j m (by omega) (by omega)
      have := H j (by omega)
      show _ ≤ (R j).2
      omega
theorem end_pos {R : Nat → Int × Int} {n : Nat} (H : Form R n) : ∀ j, j ≤ n → 0 ≤ endAt R j ∧ endAt R j ≤ 1048576
  | 0, _ => ⟨Int.le_refl _, (by decide : (0 : Int) ≤ 1048576)⟩
  | j + 1, hj => by
    have := end_pos H j (by omega)
    have := H j (by omega)
    show 0 ≤ (R j).2 ∧ (R j).2 ≤ 1048576
    omega
theorem ru_lt {R : Nat → Int × Int} {n j i : Nat} (H : Form R n) (hj : j ≤ n) (h : RU R j i) : (i : Int) < endAt R j := by
  obtain ⟨m, h1, h2, h3⟩ := h
  have := end_mono H j m h1 hj
  omega
theorem ru_seg {R : Nat → Int × Int} {j f t : Nat} (hf : (R j).1 = (f : Int)) (ht : (R j).2 = (t : Int)) : seg (RU R j) f t = RU R (j + 1) := by
  funext i; apply propext
  constructor
  · rintro (⟨m, h1, h2⟩ | ⟨h1, h2⟩)
    · exact ⟨m, by omega, h2⟩
    · exact ⟨j, by omega, by rw [hf]; omega, by rw [ht]; omega⟩
  · rintro ⟨m, h1, h2, h3⟩
    by_cases c : m = j
    · subst c
      rw [hf] at h2; rw [ht] at h3
      exact Or.inr ⟨by omega, by omega⟩
    · exact Or.inl ⟨m, by omega, h2, h3⟩
theorem new_big (g n c : Nat) (hn : 64 < n) (w : World) : Calls Tryd.prog 30 #[.slice (some ⟨g, 0, none⟩) n c] w fun e w' => e = .returned (.tuple #[.pointer none, .int .i64 4]) ∧ w' = w := by
  have d : decide ((64 : Int) < (n : Int)) = true := by simp; omega
  go_enter Tryd.func30, Tryd.ntmps30
  go_wp2_with fail
  go_returns
  exact ⟨rfl, rfl⟩
theorem new_form (g n c : Nat) (hn : n ≤ 64) (R : Nat → Int × Int) (w : World) (H : Rgs w g n R) (hF : ¬ Form R n) : Calls Tryd.prog 30 #[.slice (some ⟨g, 0, none⟩) n c] w fun e w' => e = .returned (.tuple #[.pointer none, .int .i64 3]) ∧ Below w.heap.size w w' := by
  have IC : Hid (_) := inform_any g n c R false ⟨(fun h => by cases h), fun h => absurd h hF⟩ (by omega) w H
  have d : decide ((64 : Int) < (n : Int)) = false := by simp; omega
  clear H hF
  go_enter Tryd.func30, Tryd.ntmps30
  go_wp2_with fail
  refine Calls.mono IC.out ?_
  rintro e w1 ⟨rfl, hb⟩
  have HB : Hid (Below w.heap.size w w1) := hb
  clear hb
  go_wp2_with fail
  go_returns
  exact ⟨rfl, HB.out⟩
theorem mk_first (w1 : World) (C : List Value) (hl : C.length = 23) (h22 : C[22]? = some (.map (some w1.heap.size))) (ho : ∀ o, o < 11 → C[o * 2 + 1]? = some (.slice none 0 0)) : Mk w1 ((w1.alloc (.map #[] 0)).alloc (.cells C.toArray 113)) 0 := by
  have b1 : Below w1.heap.size w1 (w1.alloc (.map #[] 0)) := Go.Joins.below_alloc1 _ _
  have b2 : Below (w1.alloc (.map #[] 0)).heap.size (w1.alloc (.map #[] 0)) ((w1.alloc (.map #[] 0)).alloc (.cells C.toArray 113)) := Go.Joins.below_alloc1 _ _
  have s1 : (w1.alloc (.map #[] 0)).heap.size = w1.heap.size + 1 := by rw [World.size_alloc]
  refine ⟨below_then b1 b2, by rw [World.size_alloc, s1], (b2.block _ (by rw [s1]; omega)).trans (own1 _ _), fun o h => absurd h (Nat.not_lt_zero _), C, ?_, hl, h22, ho, fun o h => absurd h (Nat.not_lt_zero _)⟩
  have := own1 (w1.alloc (.map #[] 0)) (.cells C.toArray 113)
  rw [s1] at this
  exact this
set_option maxHeartbeats 4000000 in
theorem new_ok (g n c : Nat) (hn : n ≤ 64) (R : Nat → Int × Int) (w : World) (H : Rgs w g n R) (hF : Form R n) : Calls Tryd.prog 30 #[.slice (some ⟨g, 0, none⟩) n c] w fun e w' => ∃ b, e = .returned (.tuple #[.pointer (some ⟨b, 0, none⟩), .int .i64 0]) ∧ Bu (fun j => j < w.heap.size) w' b (endAt R n).toNat (RU R n) noneF ∧ Below w.heap.size w w' := by
  have IC : Hid (_) := inform_any g n c R true ⟨fun _ => hF, fun _ => rfl⟩ (by omega) w H
  have HF : Hid (Form R n) := hF
  have HR : Hid (Rgs w g n R) := H
  have d : decide ((64 : Int) < (n : Int)) = false := by simp; omega
  have hmm := @run_makeMap Tryd.prog
  clear H hF
  go_enter Tryd.func30, Tryd.ntmps30
  go_wp2_with fail
  refine Calls.mono IC.out ?_
  rintro e w1 ⟨rfl, hb⟩
  have HB : Hid (Below w.heap.size w w1) := hb
  clear hb IC
  go_upto_region 6 with fail
  have M0 : Hid (Mk w1 _ 0) := mk_first w1 [.map none, .slice none 0 0, .map none, .slice none 0 0, .map none, .slice none 0 0, .map none, .slice none 0 0, .map none, .slice none 0 0, .map none, .slice none 0 0, .map none, .slice none 0 0, .map none, .slice none 0 0, .map none, .slice none 0 0, .map none, .slice none 0 0, .map none, .slice none 0 0, .map (some w1.heap.size)] rfl rfl (fun o ho => by
    have : o = 0 ∨ o = 1 ∨ o = 2 ∨ o = 3 ∨ o = 4 ∨ o = 5 ∨ o = 6 ∨ o = 7 ∨ o = 8 ∨ o = 9 ∨ o = 10 := by omega
    rcases this with rfl | rfl | rfl | rfl | rfl | rfl | rfl | rfl | rfl | rfl | rfl <;> rfl)
  generalize (w1.alloc (.map #[] 0)).alloc _ = W0 at M0 ⊢
  go_wp2_with fail
  go_loopw [5, 17] (fun v i W => ∃ k : Nat, k ≤ 11 ∧ i = .int .i64 k ∧ Hid (Mk w1 W k)) (fun _ i _ => 11 - (Go.RowKit.intOf i).toNat)
  case atStart => exact ⟨0, by omega, rfl, M0⟩
  case round =>
    clear M0
    obtain ⟨k, hk, rfl, hM⟩ := hrel
    by_cases ck : k < 11
    · have d0 : decide ((k : Int) < 0) = false := by simp
      have d1 : decide ((k : Int) < 11) = true := by simp; omega
      obtain ⟨⟨v0, c0⟩, fr, lb⟩ := hM.out.cell (k * 2) (by omega)
      have M2 := hM.out.step ck
      rw [World.setCell_alloc_past _ _ _ _ lb] at M2
      have HM2 : Hid (Mk w1 ((wr.setCell ⟨w1.heap.size + 1, k * 2, none⟩ (.map (some wr.heap.size))).alloc (.map #[] 0)) (k + 1)) := M2
      clear hM M2
      go_wp2_with fail
      go_roundw
      case rel => exact ⟨k + 1, by omega, by go_num, HM2⟩
      case measure => simp [Go.RowKit.intOf]; omega
    obtain rfl : k = 11 := by omega
    have hBu := hM.out.bu
    have HBu : Hid (Bu (fun x => x < w1.heap.size) wr (w1.heap.size + 1) (endAt R 0).toNat (RU R 0) noneF ∧ Below w1.heap.size w1 wr) := ⟨by rw [ru_none]; exact hBu, hM.out.bl⟩
    clear hM hBu ck
    rw [show ((11 : Nat) : Int) = (11 : Int) from rfl]
    go_wp2_with fail
    go_loopw [7, 30] (fun _ i W => ∃ j : Nat, j ≤ n ∧ i = .int .i64 j ∧ Hid (Bu (fun x => x < w1.heap.size) W (w1.heap.size + 1) (endAt R j).toNat (RU R j) noneF ∧ Below w1.heap.size w1 W)) (fun _ i _ => n - (Go.RowKit.intOf i).toNat)
    case atStart => exact ⟨0, by omega, rfl, HBu⟩
    case round =>
      clear HBu
      obtain ⟨j, hj, rfl, hB⟩ := hrel
      have W1 : Hid (Below w.heap.size w wr) := HB.out.trans (Below.mono hB.out.2 HB.out.size)
      by_cases cj : j < n
      rotate_left
      · obtain rfl : j = n := by omega
        have d1 : decide ((j : Int) < (j : Int)) = false := by simp
        go_wp2_with fail
        go_returns
        exact ⟨_, rfl, hB.out.1.less (fun x hx => Nat.lt_of_lt_of_le hx HB.out.size), W1.out⟩
      have d1 : decide ((j : Int) < (n : Int)) = true := by simp; omega
      have d0 : decide ((j : Int) < 0) = false := by simp
      have RR := HR.out.below W1.out
      obtain ⟨q1, q2⟩ := RR.2 j cj
      have lg := RR.1
      have fo := HF.out j cj
      have ep := end_pos HF.out j hj
      obtain ⟨f, hf⟩ : ∃ f : Nat, (R j).1 = (f : Int) := ⟨(R j).1.toNat, by omega⟩
      obtain ⟨t, ht⟩ : ∃ t : Nat, (R j).2 = (t : Int) := ⟨(R j).2.toNat, by omega⟩
      have LC : Hid (Calls Tryd.prog 66 #[.pointer (some ⟨w1.heap.size + 1, 0, none⟩), .agg #[.int .i64 f, .int .i64 t]] (wr.alloc (.cells #[.int .i64 f, .int .i64 t] 82)) fun e w' => e = .returned (.tuple #[]) ∧ Bu (fun x => x < w1.heap.size) w' (w1.heap.size + 1) (endAt R (j + 1)).toNat (RU R (j + 1)) noneF ∧ Below w1.heap.size w1 w') := by
        have b1 : Below wr.heap.size wr (wr.alloc (.cells #[.int .i64 f, .int .i64 t] 82)) := Go.Joins.below_alloc1 _ _
        have B2 := hB.out.1.below b1
        refine (B2.lay f t (by omega) (by omega) (fun i h1 h2 c => ?_) (by omega)).mono ?_
        · have := ru_lt HF.out hj c
          omega
        · rintro e w' ⟨he, hB3, k⟩
          rw [ru_seg hf ht] at hB3
          have E : (endAt R (j + 1)).toNat = t := by show (R j).2.toNat = t; rw [ht]; simp
          refine ⟨he, hB3.mono (by rw [E]; omega), ?_⟩
          have b0 := hB.out.2
          have sz := World.size_alloc wr (.cells #[.int .i64 f, .int .i64 t] 82)
          exact ⟨k.os.trans (b1.os.trans b0.os), k.tape.trans (b1.tape.trans b0.tape), k.output.trans (b1.output.trans b0.output), Nat.le_trans b0.size (Nat.le_trans b1.size k.size), fun x hx => (k.block x (Nat.lt_of_lt_of_le hx (Nat.le_trans b0.size b1.size)) (fun nz => nz hx)).trans ((b1.block x (Nat.lt_of_lt_of_le hx b0.size)).trans (b0.block x hx))⟩
      rw [hf] at q1
      rw [ht] at q2
      clear hB RR fo ep hf ht W1
      go_wp2_with fail
      refine Calls.mono LC.out ?_
      rintro e u ⟨rfl, hB2⟩
      have HB2 : Hid (Bu (fun x => x < w1.heap.size) u (w1.heap.size + 1) (endAt R (j + 1)).toNat (RU R (j + 1)) noneF ∧ Below w1.heap.size w1 u) := hB2
      clear hB2 LC
      go_wp2_with fail
      go_roundw
      case rel => exact ⟨j + 1, by omega, by go_num, HB2⟩
      case measure => simp [Go.RowKit.intOf]; omega
end Go.Proofs.YtkiclbnbnjbcaaaDoor.Bd
