/- A buddy: Free, Give, Order, Given, Blocks. -/
import Derived.Test.YtkiclbnbnjbcaabDoorBDH
import Derived.Test.YtkiclbnbnjbcaabDoorBDI
namespace Go.Proofs.YtkiclbnbnjbcaabDoor.Bd
open Go.ChangeShapes Go.WideShapes Go.ChangeAt Go.RowKit Go.Maps
set_option linter.unusedSimpArgs false
set_option linter.unusedVariables false
set_option maxRecDepth 8000

theorem Bt.len2 {w W : World} {base b gb N : Nat} {mbs : Nat → Nat} {svs : Nat → Value} {F : Nat → Prop} {G : Int → Option Int} (H : Bt w W base b gb mbs svs N (can F) G) (hF : Bnd F) (o : Nat) (ho : o < 11) : ∃ m : Nat, cnt (Uk F (o + 1)) 1048576 = cnt (Uk F o) 1048576 + m * 2 ^ o ∧ Hid (Calls Tryd.prog 72 #[.pointer (some ⟨b, o * 2, none⟩)] W fun e w' => e = .returned (.int .i64 m) ∧ w' = W) := by
  obtain ⟨C, s, h1, h2, h3⟩ := H
  obtain ⟨h, Fh, n', hB, hP, hH, hl, hA⟩ := h1.bs o ho
  exact ⟨h.length, Uk_step F hF o (by omega) h hP.nd hA, len_any base b (o * 2) (mbs o) n' C (s o) h Fh W hB⟩
theorem free_num {S0 S1 m o : Nat} (e : S1 = S0 + m * 2 ^ o) (l : S1 ≤ 1048576) (ho : o ≤ 10) : wrap64 ((S0 : Int) + wrap64 ((m : Int) * 2 ^ o)) = (S1 : Int) := by
  rw [pow_int]
  have e2 : ((m : Int) * ((2 ^ o : Nat) : Int)) = ((m * 2 ^ o : Nat) : Int) := by rw [Int.natCast_mul]
  rw [e2]
  generalize m * 2 ^ o = X at *
  unfold wrap64
  omega
theorem Bt.look {w W : World} {base b gb N : Nat} {mbs : Nat → Nat} {svs : Nat → Value} {A : Nat → Int → Prop} {G : Int → Option Int} (H : Bt w W base b gb mbs svs N A G) {x : Int} (hx : (Lit.int .i64 x).wf = true) : (Instr.lookup 101 (.map (some gb)) (.int .i64 x) true).run Tryd.prog W = .ok (.tuple #[.int .i64 ((G x).getD 0), .bool (G x).isSome]) W ∧ W.cell? ⟨b, 22, none⟩ = some (.map (some gb)) ∧ b < W.heap.size := by
  obtain ⟨C, s, h1, h2, h3⟩ := H
  obtain ⟨n, hn', hm⟩ := h1.gm
  have bk := h1.blk
  exact ⟨hm.look hx, by rw [bk.1.cell, h1.cg], blk_lt bk.1⟩
theorem Bt.give_no {w W : World} {base b gb N : Nat} {mbs : Nat → Nat} {svs : Nat → Value} {A : Nat → Int → Prop} {G : Int → Option Int} (H : Bt w W base b gb mbs svs N A G) {x : Int} (hx : (Lit.int .i64 x).wf = true) (hg : G x = none) : Calls Tryd.prog 55 #[.pointer (some ⟨b, 0, none⟩), .int .i64 x] W fun e w' => e = .returned (.int .i64 5) ∧ w' = W := by
  obtain ⟨lk, c22, lb⟩ := H.look hx
  rw [hg] at lk
  simp only [Option.getD_none, Option.isSome_none] at lk
  clear H hx hg
  go_enter Tryd.func55, Tryd.ntmps55
  go_wp2_with fail
  go_ret
  exact ⟨rfl, rfl⟩
theorem Bt.del {w W : World} {base b gb N : Nat} {mbs : Nat → Nat} {svs : Nat → Value} {A : Nat → Int → Prop} {G : Int → Option Int} (H : Bt w W base b gb mbs svs N A G) {x : Int} (hx : (Lit.int .i64 x).wf = true) : ∃ w', (Builtin.delete_ #[101, 3] 0 #[.map (some gb), .int .i64 x]).run Tryd.prog W = .ok (.tuple #[]) w' ∧ Bt w w' base b gb mbs svs N A (setF G x none) := by
  obtain ⟨C, s, h1, h2, h3⟩ := H
  obtain ⟨n, hn', hm⟩ := h1.gm
  obtain ⟨w', r, ⟨c', m'⟩, g'⟩ := hm.del hx 0
  have bk := h1.blk
  exact ⟨w', r, C, s, h1.give (Nat.le_refl _) g' ⟨_, Nat.le_trans m'.count hn', m'.tight⟩, h2.trans (Kf.grown g' (Or.inr (Or.inl rfl))), h3⟩
set_option maxHeartbeats 1000000 in
theorem Bt.give {w W : World} {base b gb N : Nat} {mbs : Nat → Nat} {svs : Nat → Value} {F : Nat → Prop} {G : Int → Option Int} (H : Bt w W base b gb mbs svs N (can F) G) (hF : Bnd F) (k q : Nat) (hk : k ≤ 10) (hq : q * 2 ^ k + 2 ^ k ≤ 1048576) (hd : ∀ i, i / 2 ^ k = q → ¬ F i) (hn : N < 1048576) {x : Int} (hx : x = ((q * 2 ^ k : Nat) : Int)) (hg : G x = some (k : Int)) :
    Calls Tryd.prog 55 #[.pointer (some ⟨b, 0, none⟩), .int .i64 x] W fun e w' => e = .returned (.int .i64 0) ∧ Bt w w' base b gb mbs svs (N + 1) (can (fun i => F i ∨ i / 2 ^ k = q)) (setF G x none) := by
  have wx : (Lit.int .i64 x).wf = true := wf64 (by rw [hx]; generalize q * 2 ^ k = X at *; omega) (by rw [hx]; have := p2pos k; generalize 2 ^ k = Q at *; generalize q * Q = X at *; omega)
  obtain ⟨lk, c22, lb⟩ := H.look wx
  rw [hg] at lk
  simp only [Option.getD_some, Option.isSome_some] at lk
  obtain ⟨w1, rd, B1⟩ := H.del wx
  obtain ⟨s, B2, back⟩ := B1.then
  have RC : Hid (Calls Tryd.prog 57 #[.pointer (some ⟨b, 0, none⟩), .int .i64 x, .int .i64 k] w1 fun e w' => e = .returned (.tuple #[]) ∧ Bt w w' base b gb mbs svs (N + 1) (can (fun i => F i ∨ i / 2 ^ k = q)) (setF G x none)) := by
    have r := rel_any base b gb N mbs s F (setF G x none) k q hk hq hd hF hn w1 B2
    rw [← hx] at r
    refine r.mono ?_
    rintro e w' ⟨he, h⟩
    exact ⟨he, back _ _ _ _ h⟩
  clear H hx hg hd hF hq B1 B2 back wx
  go_enter Tryd.func55, Tryd.ntmps55
  go_wp2_with fail
  refine Calls.mono RC.out ?_
  rintro e w2 ⟨rfl, hB⟩
  have HB : Hid (Bt w w2 base b gb mbs svs (N + 1) (can (fun i => F i ∨ i / 2 ^ k = q)) (setF G x none)) := hB
  clear hB RC
  go_wp2_with fail
  go_ret
  exact ⟨rfl, HB.out⟩
end Go.Proofs.YtkiclbnbnjbcaabDoor.Bd
