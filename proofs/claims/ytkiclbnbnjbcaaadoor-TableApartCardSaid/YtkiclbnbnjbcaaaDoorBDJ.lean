/- A buddy: Free, Give, Order, Given, Blocks. -/
import Derived.Test.YtkiclbnbnjbcaaaDoorBDH
import Derived.Test.YtkiclbnbnjbcaaaDoorBDI
namespace Go.Proofs.YtkiclbnbnjbcaaaDoor.Bd
open Go.ChangeShapes Go.WideShapes Go.ChangeAt Go.RowKit Go.Maps
set_option linter.unusedSimpArgs false
set_option linter.unusedVariables false
set_option maxRecDepth 8000

theorem Bt.len2 {w W : World} {base b gb N : Nat} {mbs : Nat → Nat} {svs : Nat → Value} {F : Nat → Prop} {G : Int → Option Int} (H : Bt w W base b gb mbs svs N (can F) G) (hF : Bnd F) (o : Nat) (ho : o < 11) : ∃ m : Nat, cnt (Uk F (o + 1)) 1048576 = cnt (Uk F o) 1048576 + m * 2 ^ o ∧ Hid (Calls Tryd.prog 44 #[.pointer (some ⟨b, o * 2, none⟩)] W fun e w' => e = .returned (.int .i64 m) ∧ w' = W) := by
  obtain ⟨C, s, h1, h2, h3⟩ := H
  obtain ⟨h, Fh, n', hB, hP, hH, hl, hA⟩ := h1.bs o ho
  exact ⟨h.length, Uk_step F hF o (by omega) h hP.nd hA, len_any base b (o * 2) (mbs o) n' C (s o) h Fh W hB⟩
theorem free_num {S0 S1 m o : Nat} (e : S1 = S0 + m * 2 ^ o) (l : S1 ≤ 1048576) (ho : o ≤ 10) : wrap64 ((S0 : Int) + wrap64 ((m : Int) * 2 ^ o)) = (S1 : Int) := by
  rw [pow_int]
  have e2 : ((m : Int) * ((2 ^ o : Nat) : Int)) = ((m * 2 ^ o : Nat) : Int) := by rw [Int.natCast_mul]
  rw [e2]
  generalize m * 2 ^ o = X at *
  unfold wrap64
  omega
set_option maxHeartbeats 2000000 in
theorem Bt.free {w W : World} {base b gb N : Nat} {mbs : Nat → Nat} {svs : Nat → Value} {F : Nat → Prop} {G : Int → Option Int} (H : Bt w W base b gb mbs svs N (can F) G) (hF : Bnd F) : Calls Tryd.prog 18 #[.pointer (some ⟨b, 0, none⟩)] W fun e w' => e = .returned (.int .i64 (cnt F 1048576 : Nat)) ∧ w' = W := by
  have HL : Hid (∀ o, o < 11 → ∃ m : Nat, cnt (Uk F (o + 1)) 1048576 = cnt (Uk F o) 1048576 + m * 2 ^ o ∧ Hid (Calls Tryd.prog 44 #[.pointer (some ⟨b, o * 2, none⟩)] W fun e w' => e = .returned (.int .i64 m) ∧ w' = W)) := fun o ho => H.len2 hF o ho
  obtain ⟨S, hS⟩ : ∃ S : Nat → Nat, ∀ k, S k = cnt (Uk F k) 1048576 := ⟨fun k => cnt (Uk F k) 1048576, fun _ => rfl⟩
  have S0 : Hid (S 0 = 0) := (hS 0).trans (Uk_zero F _)
  have SL : Hid (∀ k, S k ≤ 1048576) := fun k => by rw [hS]; exact Uk_le F k
  have SE : S 11 = cnt F 1048576 := by rw [hS, Uk_all]
  rw [← SE]
  have HL2 : Hid (∀ o, o < 11 → ∃ m : Nat, S (o + 1) = S o + m * 2 ^ o ∧ Hid (Calls Tryd.prog 44 #[.pointer (some ⟨b, o * 2, none⟩)] W fun e w' => e = .returned (.int .i64 m) ∧ w' = W)) := fun o ho => by
    obtain ⟨m, e, c⟩ := HL.out o ho
    exact ⟨m, by rw [hS, hS]; exact e, c⟩
  clear H HL SE hS hF
  go_enter Tryd.func18, Tryd.ntmps18
  go_wp2_with fail
  go_loopw [3, 4, 5] (fun v u x W' => ∃ k : Nat, k ≤ 11 ∧ v = .int .i64 (S k) ∧ x = .int .i64 k ∧ W' = W) (fun _ _ x _ => 11 - (Go.RowKit.intOf x).toNat)
  case atStart => exact ⟨0, by omega, by rw [S0.out]; rfl, rfl, rfl⟩
  case round =>
    obtain ⟨k, hk, rfl, rfl, rfl⟩ := hrel
    by_cases c : k < 11
    rotate_left
    · have e : k = 11 := by omega
      subst e
      clear c
      go_wp2_with fail
      go_ret
      exact ⟨rfl, rfl⟩
    obtain ⟨m, em, LC⟩ := HL2.out k c
    have EM : Hid (wrap64 ((S k : Int) + wrap64 ((m : Int) * 2 ^ k)) = (S (k + 1) : Int)) := free_num em (SL.out _) (by omega)
    have d0 : decide ((k : Int) < 0) = false := by simp
    have d1 : decide ((k : Int) < 11) = true := by simp; omega
    clear em
    go_wp2_with fail
    refine Calls.mono LC.out ?_
    rintro e w2 ⟨rfl, rfl⟩
    go_wp2_with fail
    go_roundw
    case rel => exact ⟨k + 1, by omega, by rw [EM.out], by go_num, trivial⟩
    case measure => simp [Go.RowKit.intOf]; omega
theorem Bt.look {w W : World} {base b gb N : Nat} {mbs : Nat → Nat} {svs : Nat → Value} {A : Nat → Int → Prop} {G : Int → Option Int} (H : Bt w W base b gb mbs svs N A G) {x : Int} (hx : (Lit.int .i64 x).wf = true) : (Instr.lookup 108 (.map (some gb)) (.int .i64 x) true).run Tryd.prog W = .ok (.tuple #[.int .i64 ((G x).getD 0), .bool (G x).isSome]) W ∧ W.cell? ⟨b, 22, none⟩ = some (.map (some gb)) ∧ b < W.heap.size := by
  obtain ⟨C, s, h1, h2, h3⟩ := H
  obtain ⟨n, hn', hm⟩ := h1.gm
  have bk := h1.blk
  exact ⟨hm.look hx, by rw [bk.1.cell, h1.cg], blk_lt bk.1⟩
theorem Bt.give_no {w W : World} {base b gb N : Nat} {mbs : Nat → Nat} {svs : Nat → Value} {A : Nat → Int → Prop} {G : Int → Option Int} (H : Bt w W base b gb mbs svs N A G) {x : Int} (hx : (Lit.int .i64 x).wf = true) (hg : G x = none) : Calls Tryd.prog 74 #[.pointer (some ⟨b, 0, none⟩), .int .i64 x] W fun e w' => e = .returned (.int .i64 5) ∧ w' = W := by
  obtain ⟨lk, c22, lb⟩ := H.look hx
  rw [hg] at lk
  simp only [Option.getD_none, Option.isSome_none] at lk
  clear H hx hg
  go_enter Tryd.func74, Tryd.ntmps74
  go_wp2_with fail
  go_ret
  exact ⟨rfl, rfl⟩
theorem Bt.del {w W : World} {base b gb N : Nat} {mbs : Nat → Nat} {svs : Nat → Value} {A : Nat → Int → Prop} {G : Int → Option Int} (H : Bt w W base b gb mbs svs N A G) {x : Int} (hx : (Lit.int .i64 x).wf = true) : ∃ w', (Builtin.delete_ #[108, 3] 0 #[.map (some gb), .int .i64 x]).run Tryd.prog W = .ok (.tuple #[]) w' ∧ Bt w w' base b gb mbs svs N A (setF G x none) := by
  obtain ⟨C, s, h1, h2, h3⟩ := H
  obtain ⟨n, hn', hm⟩ := h1.gm
  obtain ⟨w', r, ⟨c', m'⟩, g'⟩ := hm.del hx 0
  have bk := h1.blk
  exact ⟨w', r, C, s, h1.give (Nat.le_refl _) g' ⟨_, Nat.le_trans m'.count hn', m'.tight⟩, h2.trans (Kf.grown g' (Or.inr (Or.inl rfl))), h3⟩
set_option maxHeartbeats 1000000 in
theorem Bt.give {w W : World} {base b gb N : Nat} {mbs : Nat → Nat} {svs : Nat → Value} {F : Nat → Prop} {G : Int → Option Int} (H : Bt w W base b gb mbs svs N (can F) G) (hF : Bnd F) (k q : Nat) (hk : k ≤ 10) (hq : q * 2 ^ k + 2 ^ k ≤ 1048576) (hd : ∀ i, i / 2 ^ k = q → ¬ F i) (hn : N < 1048576) {x : Int} (hx : x = ((q * 2 ^ k : Nat) : Int)) (hg : G x = some (k : Int)) :
    Calls Tryd.prog 74 #[.pointer (some ⟨b, 0, none⟩), .int .i64 x] W fun e w' => e = .returned (.int .i64 0) ∧ Bt w w' base b gb mbs svs (N + 1) (can (fun i => F i ∨ i / 2 ^ k = q)) (setF G x none) := by
  have wx : (Lit.int .i64 x).wf = true := wf64 (by rw [hx]; generalize q * 2 ^ k = X at *; omega) (by rw [hx]; have := p2pos k; generalize 2 ^ k = Q at *; generalize q * Q = X at *; omega)
  obtain ⟨lk, c22, lb⟩ := H.look wx
  rw [hg] at lk
  simp only [Option.getD_some, Option.isSome_some] at lk
  obtain ⟨w1, rd, B1⟩ := H.del wx
  obtain ⟨s, B2, back⟩ := B1.then
  have RC : Hid (Calls Tryd.prog 78 #[.pointer (some ⟨b, 0, none⟩), .int .i64 x, .int .i64 k] w1 fun e w' => e = .returned (.tuple #[]) ∧ Bt w w' base b gb mbs svs (N + 1) (can (fun i => F i ∨ i / 2 ^ k = q)) (setF G x none)) := by
    have r := rel_any base b gb N mbs s F (setF G x none) k q hk hq hd hF hn w1 B2
    rw [← hx] at r
    refine r.mono ?_
    rintro e w' ⟨he, h⟩
    exact ⟨he, back _ _ _ _ h⟩
  clear H hx hg hd hF hq B1 B2 back wx
  go_enter Tryd.func74, Tryd.ntmps74
  go_wp2_with fail
  refine Calls.mono RC.out ?_
  rintro e w2 ⟨rfl, hB⟩
  have HB : Hid (Bt w w2 base b gb mbs svs (N + 1) (can (fun i => F i ∨ i / 2 ^ k = q)) (setF G x none)) := hB
  clear hB RC
  go_wp2_with fail
  go_ret
  exact ⟨rfl, HB.out⟩
end Go.Proofs.YtkiclbnbnjbcaaaDoor.Bd
