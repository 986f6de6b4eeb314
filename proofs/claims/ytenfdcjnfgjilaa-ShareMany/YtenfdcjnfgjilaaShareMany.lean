/- For any process, number of pages and page that is gone: a process offers just sixteen pages, and when one is gone its number is used again; no condition. -/
import Derived.Test.YtenfdcjnfgjilaaRows
import Derived.ProofKit
import Derived.OpenShut
import Derived.Carry
import Derived.Test.YtenfdcjnfgjilaaS9
import Derived.Test.YtenfdcjnfgjilaaSX
import Derived.Test.YtenfdcjnfgjilaaSN
namespace Go.Proofs.Ytenfdcjnfgjilaa.shareMany
open Go.ChangeShapes Go.WideShapes Go.ChangeAt Go.RowKit Go.Maps
set_option linter.unusedSimpArgs false
set_option linter.unusedVariables false
theorem min_cases (a b : Int) : (b < a ∧ min a b = b) ∨ (a ≤ b ∧ min a b = a) := by
  by_cases c : b < a
  · exact Or.inl ⟨c, by omega⟩
  · exact Or.inr ⟨by omega, by omega⟩
theorem min_pat {P : Program} {ops : Array Oper} {rest : List Oper} {ty t : TypeId} {x y : Operand} {q : Tmp} {pos : String} {af : Array Edge} {gd : Option (Nat × Bool)} {a : Act} {w : World} {Q : Exit → Act → World → Prop} (u v z : Int) (hz : min u v = z)
    (hw : Region.wanted { dst := some q, op := .call { callee := .builtin .min, args := #[x, y], argTypes := #[ty, ty] }, type := t, pos := pos, after := af, guard := gd } (yielded ops a.tmps) = true) (hx : a.eval x = .int .i64 u) (hy : a.eval y = .int .i64 v)
    (h : wpList P ops Q rest (a.put (some q) (.int .i64 z)) w) : wpList P ops Q ({ dst := some q, op := .call { callee := .builtin .min, args := #[x, y], argTypes := #[ty, ty] }, type := t, pos := pos, after := af, guard := gd } :: rest) a w := by
  unfold wpList
  rw [if_pos hw]
  left
  subst hz
  unfold Oper.wp execOp
  rcases min_cases u v with ⟨c, e⟩ | ⟨c, e⟩
  · rw [e] at h
    simp only [resolve, invoke, builtin, Sem.run_bind, Sem.run_pure, Result.andThen_ok, List.map_toArray, List.map_cons, List.map_nil, hx, hy]
    go_simp
    first | exact h | (split <;> first | exact h | (exfalso; omega))
  · rw [e] at h
    simp only [resolve, invoke, builtin, Sem.run_bind, Sem.run_pure, Result.andThen_ok, List.map_toArray, List.map_cons, List.map_nil, hx, hy]
    go_simp
    first | exact h | (split <;> first | exact h | (exfalso; omega))

set_option maxRecDepth 8000 in
set_option maxHeartbeats 32000000 in
theorem walk (a0 : Int) (w0 : (Lit.int .i64 a0).wf = true) (a1 : Int) (w1 : (Lit.int .i64 a1).wf = true) (a2 : Int) (w2 : (Lit.int .i64 a2).wf = true) (w : World)  :
    Calls Try.prog 5 #[.int .i64 a0, .int .i64 a1, .int .i64 a2] w fun e w' => e = .returned (.bool true) ∧ Below w.heap.size w w' := by
  have AW : Hid (∀ W : World, Calls Try.prog 8 #[] W fun e w' => e = .returned (.bool true) ∧ Below W.heap.size W w') := fun W => awake_any W
  obtain ⟨Zs, hz, hs, hzz⟩ := zeroT
  have M : Hid (Own w (w.alloc (.cells Zs 27)) w.heap.size zT) := ⟨IsTab.made w Zs hs hzz, Go.Joins.below_alloc1 _ _, Nat.le_refl _⟩
  clear hs hzz
  by_cases k1 : a0 < 0
  · have e1 : decide (a0 < 0) = true := by simp [k1]
    go_enter Try.func5, Try.ntmps5
    go_wp2_with fail
    refine (AW.out _).mono ?_
    rintro e u1 ⟨rfl, hb1⟩
    have B1 : Hid (Below w.heap.size w u1) := below_then (Go.Joins.below_alloc1 _ _) hb1
    clear hb1
    go_wp2_with fail
    go_ret
    exact ⟨rfl, B1.out⟩
  have e1 : decide (a0 < 0) = false := by simp; omega
  by_cases k2 : 15 < a0
  · have e2 : decide (15 < a0) = true := by simp [k2]
    go_enter Try.func5, Try.ntmps5
    go_wp2_with fail
    refine (AW.out _).mono ?_
    rintro e u1 ⟨rfl, hb1⟩
    have B1 : Hid (Below w.heap.size w u1) := below_then (Go.Joins.below_alloc1 _ _) hb1
    clear hb1
    go_wp2_with fail
    go_ret
    exact ⟨rfl, B1.out⟩
  have e2 : decide (15 < a0) = false := by simp; omega
  by_cases k3 : a1 < 0
  · have e3 : decide (a1 < 0) = true := by simp [k3]
    go_enter Try.func5, Try.ntmps5
    go_wp2_with fail
    refine (AW.out _).mono ?_
    rintro e u1 ⟨rfl, hb1⟩
    have B1 : Hid (Below w.heap.size w u1) := below_then (Go.Joins.below_alloc1 _ _) hb1
    clear hb1
    go_wp2_with fail
    go_ret
    exact ⟨rfl, B1.out⟩
  have e3 : decide (a1 < 0) = false := by simp; omega
  by_cases k4 : 20 < a1
  · have e4 : decide (20 < a1) = true := by simp [k4]
    go_enter Try.func5, Try.ntmps5
    go_wp2_with fail
    refine (AW.out _).mono ?_
    rintro e u1 ⟨rfl, hb1⟩
    have B1 : Hid (Below w.heap.size w u1) := below_then (Go.Joins.below_alloc1 _ _) hb1
    clear hb1
    go_wp2_with fail
    go_ret
    exact ⟨rfl, B1.out⟩
  have e4 : decide (20 < a1) = false := by simp; omega
  obtain ⟨p, rfl⟩ : ∃ p : Nat, a0 = p := ⟨a0.toNat, by omega⟩
  obtain ⟨n, rfl⟩ : ∃ n : Nat, a1 = n := ⟨a1.toNat, by omega⟩
  have hp : p < 16 := by omega
  have hn : n ≤ 20 := by omega
  obtain ⟨q, hq⟩ : ∃ q : Nat, (p + 1) % 16 = q := ⟨_, rfl⟩
  have HQ : ((p : Int) + 1).tmod 16 = (q : Int) := by rw [← hq, Int.tmod_eq_emod_of_nonneg (by omega)]; omega
  have OA : Hid (∀ k : Nat, k < 16 → ∀ W : World, IsTab W w.heap.size (manyT p k) → Calls Try.prog 17 #[.pointer (some ⟨w.heap.size, 0, none⟩), .int .i64 p, .int .i64 k, .int .i64 q, .bool false] W fun e w' => e = .returned (.tuple #[.int .i64 (16 * (p : Int) + k), .int .i64 0]) ∧ IsTab w' w.heap.size (manyT p (k + 1)) ∧ W.grownBy w' (some w.heap.size)) := fun k hk W h => by
    have := offer_any w.heap.size (manyT p k) p k q false W h
    obtain ⟨h1, h2, h3⟩ := many_offer p k hp (by omega)
    rw [hq] at h1 h2 h3
    rw [h1, h2, h3, if_pos hk, if_pos hk, show ((p * 16 + k : Nat) : Int) = 16 * (p : Int) + k by omega] at this; exact this
  have OB : Hid (∀ k : Nat, 16 ≤ k → k < 21 → ∀ W : World, IsTab W w.heap.size (manyT p k) → Calls Try.prog 17 #[.pointer (some ⟨w.heap.size, 0, none⟩), .int .i64 p, .int .i64 k, .int .i64 q, .bool false] W fun e w' => e = .returned (.tuple #[.int .i64 0, .int .i64 4]) ∧ IsTab w' w.heap.size (manyT p (k + 1)) ∧ W.grownBy w' (some w.heap.size)) := fun k hk hk2 W h => by
    have := offer_any w.heap.size (manyT p k) p k q false W h
    obtain ⟨h1, h2, h3⟩ := many_offer p k hp hk2
    rw [hq] at h1 h2 h3
    rw [h1, h2, h3, if_neg (by omega), if_neg (by omega)] at this; exact this
  have OL : Hid (∀ (T : Nat → Gr) (m : Nat), (ofL T p 256).length = m → ∀ W : World, IsTab W w.heap.size T → Calls Try.prog 10 #[.pointer (some ⟨w.heap.size, 0, none⟩), .int .i64 p] W fun e w' => (∃ q c, e = .returned (.slice q m c)) ∧ Below W.heap.size W w') := fun T m hm W h => (of_call w.heap.size T p W h).mono fun e w' ⟨⟨q, c, h1, _⟩, h3⟩ => ⟨⟨q, c, by rw [← hm]; exact h1⟩, h3⟩
  have CL : Hid (∀ (T : Nat → Gr) (m : Nat), (ofL T p 256).length = m → ∀ W : World, IsTab W w.heap.size T → Calls Try.prog 19 #[.pointer (some ⟨w.heap.size, 0, none⟩), .int .i64 p] W fun e w' => (∃ q c, e = .returned (.slice q m c)) ∧ IsTab w' w.heap.size (clrL T (ofL T p 256)) ∧ W.grownBy w' (some w.heap.size)) := fun T m hm W h => (clear_any w.heap.size T p W h).mono fun e w' ⟨v, h1, h2, h3, h4⟩ => by
    obtain ⟨q, c, rfl⟩ := own_size h2
    exact ⟨⟨q, c, by rw [← hm]; exact h1⟩, h3, h4⟩
  have LM : Hid (∀ m, (ofL (manyT p m) p 256).length = min m 16) := fun m => many_len p m hp
  have RV : Hid (∀ g : Nat, g < min n 16 → ∀ W : World, IsTab W w.heap.size (manyT p n) → Calls Try.prog 18 #[.pointer (some ⟨w.heap.size, 0, none⟩), .int .i64 (16 * (p : Int) + g), .int .i64 p] W fun e w' => e = .returned (.tuple #[.agg #[.int .i64 p, .int .i64 g, .int .i64 q, .bool false, .bool false, .int .i64 0], .int .i64 0]) ∧ IsTab w' w.heap.size (putT (manyT p n) (p * 16 + g) Gr.zero) ∧ W.grownBy w' (some w.heap.size)) := fun g hg W h => by
    have := revoke_any w.heap.size (manyT p n) (p * 16 + g : Nat) p W h
    obtain ⟨h1, h2, h3⟩ := many_revoke p n g hp hg
    rw [hq] at h2
    rw [h1, h2, h3, show ((p * 16 + g : Nat) : Int) = 16 * (p : Int) + g by omega] at this; exact this
  have OG : Hid (∀ g : Nat, g < min n 16 → ∀ W : World, IsTab W w.heap.size (putT (manyT p n) (p * 16 + g) Gr.zero) → Calls Try.prog 17 #[.pointer (some ⟨w.heap.size, 0, none⟩), .int .i64 p, .int .i64 99, .int .i64 q, .bool true] W fun e w' => e = .returned (.tuple #[.int .i64 (16 * (p : Int) + g), .int .i64 0]) ∧ IsTab w' w.heap.size (backT p n g) ∧ W.grownBy w' (some w.heap.size)) := fun g hg W h => by
    have := offer_any w.heap.size (putT (manyT p n) (p * 16 + g) Gr.zero) p 99 q true W h
    obtain ⟨h1, h2, h3⟩ := many_again p n g hp hg
    rw [hq] at h1 h2 h3
    rw [h1, h2, h3, show ((p * 16 + g : Nat) : Int) = 16 * (p : Int) + g by omega] at this; exact this
  have BL : Hid (∀ g : Nat, g < min n 16 → (ofL (backT p n g) p 256).length = min n 16) := fun g hg => back_len p n g hp hg
  have MZ : Hid (manyT p 0 = zT) := many_zero p
  clear k1 k2 k3 k4 hq
  go_enter Try.func5, Try.ntmps5
  go_wp2_with fail
  go_loopw [8] (fun x W => ∃ k : Nat, k ≤ n ∧ x = .int .i64 k ∧ Hid (Own w W w.heap.size (manyT p k))) (fun x _ => n - (intOf x).toNat)
  case atStart => exact ⟨0, by omega, rfl, by rw [MZ.out]; exact M.out⟩
  case round =>
    obtain ⟨k, hk, rfl, hM⟩ := hrel
    by_cases hlt : k < n
    · have hd : decide ((k : Int) < (n : Int)) = true := by simp; omega
      by_cases h16 : k < 16
      · have h1 : decide ((k : Int) < 16) = true := by simp; omega
        have h2 : decide ((16 : Int) ≤ (k : Int)) = false := by simp; omega
        go_wp2_with fail
        refine (OA.out k h16 _ hM.out.1).mono ?_
        rintro e u1 ⟨rfl, h3, h4⟩
        have M1 : Hid (Own w u1 w.heap.size (manyT p (k + 1))) := hM.out.next h3 h4
        clear h3 h4
        go_wp2_with fail
        go_roundw
        case rel => exact ⟨k + 1, by omega, by go_num, M1⟩
        case measure => simp [intOf]; omega
      · have h1 : decide ((k : Int) < 16) = false := by simp; omega
        have h2 : decide ((16 : Int) ≤ (k : Int)) = true := by simp; omega
        go_wp2_with fail
        refine (OB.out k (by omega) (by omega) _ hM.out.1).mono ?_
        rintro e u1 ⟨rfl, h3, h4⟩
        have M1 : Hid (Own w u1 w.heap.size (manyT p (k + 1))) := hM.out.next h3 h4
        clear h3 h4
        go_wp2_with fail
        go_roundw
        case rel => exact ⟨k + 1, by omega, by go_num, M1⟩
        case measure => simp [intOf]; omega
    · obtain rfl : k = n := by omega
      have hd : decide ((k : Int) < (k : Int)) = false := by simp
      rcases Nat.lt_trichotomy k 16 with h16 | h16 | h16
      · have h1 : decide ((k : Int) < 16) = true := by simp; omega
        have h2 : decide ((16 : Int) < (k : Int)) = false := by simp; omega
        have h3 : decide ((k : Int) ≤ 16) = true := by simp; omega
        have LK : Hid ((ofL (manyT p k) p 256).length = k) := (LM.out k).trans (by omega)
        have HMIN : Hid (min (k : Int) 16 = (k : Int)) := by show _ = _; omega
        by_cases g1 : a2 < 0
        · have j1 : decide (a2 < 0) = true := by simp [g1]
          go_wp2_with fail
          refine (OL.out _ k LK.out _ hM.out.1).mono ?_
          rintro e u1 ⟨⟨q1, c1, rfl⟩, hb1⟩
          have M1 : Hid (Own w u1 w.heap.size (manyT p k)) := hM.out.grow hb1
          clear hb1 hM
          go_wp2_with fail
          refine (OL.out _ k LK.out _ M1.out.1).mono ?_
          rintro e u2 ⟨⟨q2, c2, rfl⟩, hb1⟩
          have M2 : Hid (Own w u2 w.heap.size (manyT p k)) := M1.out.grow hb1
          clear hb1 M1
          go_wp2_with fail
          refine (AW.out _).mono ?_
          rintro e u3 ⟨rfl, hb1⟩
          have M3 : Hid (Own w u3 w.heap.size (manyT p k)) := M2.out.grow hb1
          clear hb1 M2
          go_wp2_with fail
          go_ret
          exact ⟨rfl, M3.out.2.1⟩
        have j1 : decide (a2 < 0) = false := by simp; omega
        by_cases g2 : (k : Int) ≤ a2
        · have j2 : decide ((k : Int) ≤ a2) = true := by simp [g2]
          go_wp2_with fail
          refine (OL.out _ k LK.out _ hM.out.1).mono ?_
          rintro e u1 ⟨⟨q1, c1, rfl⟩, hb1⟩
          have M1 : Hid (Own w u1 w.heap.size (manyT p k)) := hM.out.grow hb1
          clear hb1 hM
          go_wp2_with fail
          refine (OL.out _ k LK.out _ M1.out.1).mono ?_
          rintro e u2 ⟨⟨q2, c2, rfl⟩, hb1⟩
          have M2 : Hid (Own w u2 w.heap.size (manyT p k)) := M1.out.grow hb1
          clear hb1 M1
          go_wp2_with fail
          refine (AW.out _).mono ?_
          rintro e u3 ⟨rfl, hb1⟩
          have M3 : Hid (Own w u3 w.heap.size (manyT p k)) := M2.out.grow hb1
          clear hb1 M2
          go_wp2_with fail
          go_ret
          exact ⟨rfl, M3.out.2.1⟩
        have j2 : decide ((k : Int) ≤ a2) = false := by simp; omega
        obtain ⟨g, ea⟩ : ∃ g : Nat, a2 = g := ⟨a2.toNat, by omega⟩
        have hg : g < min k 16 := by omega
        have b0 : 0 ≤ a2 := by omega
        have b1 : a2 < 17 := by omega
        have RW : Hid (∀ W : World, IsTab W w.heap.size (manyT p k) → Calls Try.prog 18 #[.pointer (some ⟨w.heap.size, 0, none⟩), .int .i64 (16 * (p : Int) + a2), .int .i64 p] W fun e w' => e = .returned (.tuple #[.agg #[.int .i64 p, .int .i64 a2, .int .i64 q, .bool false, .bool false, .int .i64 0], .int .i64 0]) ∧ IsTab w' w.heap.size (putT (manyT p k) (p * 16 + g) Gr.zero) ∧ W.grownBy w' (some w.heap.size)) := by rw [ea]; exact RV.out g hg
        have OW : Hid (∀ W : World, IsTab W w.heap.size (putT (manyT p k) (p * 16 + g) Gr.zero) → Calls Try.prog 17 #[.pointer (some ⟨w.heap.size, 0, none⟩), .int .i64 p, .int .i64 99, .int .i64 q, .bool true] W fun e w' => e = .returned (.tuple #[.int .i64 (16 * (p : Int) + a2), .int .i64 0]) ∧ IsTab w' w.heap.size (backT p k g) ∧ W.grownBy w' (some w.heap.size)) := by rw [ea]; exact OG.out g hg
        have BG : Hid ((ofL (backT p k g) p 256).length = k) := (BL.out g hg).trans (by omega)
        clear ea RV OG BL g1 g2 hg
        go_wp2_with fail
        refine (OL.out _ k LK.out _ hM.out.1).mono ?_
        rintro e u1 ⟨⟨q1, c1, rfl⟩, hb1⟩
        have M1 : Hid (Own w u1 w.heap.size (manyT p k)) := hM.out.grow hb1
        clear hb1 hM
        go_wp2_with fail
        refine (RW.out _ M1.out.1).mono ?_
        rintro e u2 ⟨rfl, h3, h4⟩
        have M2 : Hid (Own w u2 w.heap.size (putT (manyT p k) (p * 16 + g) Gr.zero)) := M1.out.next h3 h4
        have l2 : w.heap.size < u2.heap.size := M2.out.1.2.2
        clear h3 h4 M1
        go_wp2_with fail
        refine (OW.out _ (M2.out.grow (Go.Joins.below_alloc1 _ _)).1).mono ?_
        rintro e u3 ⟨rfl, h3, h4⟩
        have y1 : u3.cell? ⟨u2.heap.size, 1, none⟩ = some (.int .i64 a2) := cell_grown h4 (by simp) (by omega) (by simp)
        have ly : u2.heap.size < u3.heap.size := Nat.lt_of_lt_of_le (by simp) h4.size
        have M3 : Hid (Own w u3 w.heap.size (backT p k g)) := (M2.out.grow (Go.Joins.below_alloc1 _ _)).next h3 h4
        clear h3 h4 M2
        go_wp2_with fail
        refine (AW.out _).mono ?_
        rintro e u4 ⟨rfl, hb⟩
        have y2 : u4.cell? ⟨u2.heap.size, 1, none⟩ = some (.int .i64 a2) := (hb.cell (p := ⟨u2.heap.size, 1, none⟩) ly).trans y1
        have M4 : Hid (Own w u4 w.heap.size (backT p k g)) := M3.out.grow hb
        clear hb M3 y1 ly
        go_wp2_with fail
        refine (CL.out _ k BG.out _ M4.out.1).mono ?_
        rintro e u5 ⟨⟨q5, c5, rfl⟩, h3, h4⟩
        have M5 : Hid (Own w u5 w.heap.size (clrL (backT p k g) (ofL (backT p k g) p 256))) := M4.out.next h3 h4
        clear h3 h4 M4
        go_wp2_with fail
        refine (OL.out _ 0 (by rw [of_clear]; rfl) _ M5.out.1).mono ?_
        rintro e u6 ⟨⟨q6, c6, rfl⟩, hb⟩
        have M6 := M5.out.grow hb
        clear hb M5
        go_wp2_with fail
        go_ret
        exact ⟨rfl, M6.2.1⟩
      · subst h16
        skip
        have LK : Hid ((ofL (manyT p 16) p 256).length = 16) := (LM.out 16).trans (by omega)
        have HMIN : Hid (min (16 : Int) 16 = 16) := by show _ = _; omega
        by_cases g1 : a2 < 0
        · have j1 : decide (a2 < 0) = true := by simp [g1]
          go_wp2_with fail
          refine (OL.out _ 16 LK.out _ hM.out.1).mono ?_
          rintro e u1 ⟨⟨q1, c1, rfl⟩, hb1⟩
          have M1 : Hid (Own w u1 w.heap.size (manyT p 16)) := hM.out.grow hb1
          clear hb1 hM
          go_wp2_with fail
          refine (OL.out _ 16 LK.out _ M1.out.1).mono ?_
          rintro e u2 ⟨⟨q2, c2, rfl⟩, hb1⟩
          have M2 : Hid (Own w u2 w.heap.size (manyT p 16)) := M1.out.grow hb1
          clear hb1 M1
          go_wp2_with fail
          refine (AW.out _).mono ?_
          rintro e u3 ⟨rfl, hb1⟩
          have M3 : Hid (Own w u3 w.heap.size (manyT p 16)) := M2.out.grow hb1
          clear hb1 M2
          go_wp2_with fail
          go_ret
          exact ⟨rfl, M3.out.2.1⟩
        have j1 : decide (a2 < 0) = false := by simp; omega
        by_cases g2 : 16 ≤ a2
        · have j2 : decide (16 ≤ a2) = true := by simp [g2]
          go_wp2_with fail
          refine (OL.out _ 16 LK.out _ hM.out.1).mono ?_
          rintro e u1 ⟨⟨q1, c1, rfl⟩, hb1⟩
          have M1 : Hid (Own w u1 w.heap.size (manyT p 16)) := hM.out.grow hb1
          clear hb1 hM
          go_wp2_with fail
          refine (OL.out _ 16 LK.out _ M1.out.1).mono ?_
          rintro e u2 ⟨⟨q2, c2, rfl⟩, hb1⟩
          have M2 : Hid (Own w u2 w.heap.size (manyT p 16)) := M1.out.grow hb1
          clear hb1 M1
          go_wp2_with fail
          refine (AW.out _).mono ?_
          rintro e u3 ⟨rfl, hb1⟩
          have M3 : Hid (Own w u3 w.heap.size (manyT p 16)) := M2.out.grow hb1
          clear hb1 M2
          go_wp2_with fail
          go_ret
          exact ⟨rfl, M3.out.2.1⟩
        have j2 : decide (16 ≤ a2) = false := by simp; omega
        obtain ⟨g, ea⟩ : ∃ g : Nat, a2 = g := ⟨a2.toNat, by omega⟩
        have hg : g < min 16 16 := by omega
        have b0 : 0 ≤ a2 := by omega
        have b1 : a2 < 17 := by omega
        have RW : Hid (∀ W : World, IsTab W w.heap.size (manyT p 16) → Calls Try.prog 18 #[.pointer (some ⟨w.heap.size, 0, none⟩), .int .i64 (16 * (p : Int) + a2), .int .i64 p] W fun e w' => e = .returned (.tuple #[.agg #[.int .i64 p, .int .i64 a2, .int .i64 q, .bool false, .bool false, .int .i64 0], .int .i64 0]) ∧ IsTab w' w.heap.size (putT (manyT p 16) (p * 16 + g) Gr.zero) ∧ W.grownBy w' (some w.heap.size)) := by rw [ea]; exact RV.out g hg
        have OW : Hid (∀ W : World, IsTab W w.heap.size (putT (manyT p 16) (p * 16 + g) Gr.zero) → Calls Try.prog 17 #[.pointer (some ⟨w.heap.size, 0, none⟩), .int .i64 p, .int .i64 99, .int .i64 q, .bool true] W fun e w' => e = .returned (.tuple #[.int .i64 (16 * (p : Int) + a2), .int .i64 0]) ∧ IsTab w' w.heap.size (backT p 16 g) ∧ W.grownBy w' (some w.heap.size)) := by rw [ea]; exact OG.out g hg
        have BG : Hid ((ofL (backT p 16 g) p 256).length = 16) := (BL.out g hg).trans (by omega)
        clear ea RV OG BL g1 g2 hg
        go_wp2_with fail
        refine (OL.out _ 16 LK.out _ hM.out.1).mono ?_
        rintro e u1 ⟨⟨q1, c1, rfl⟩, hb1⟩
        have M1 : Hid (Own w u1 w.heap.size (manyT p 16)) := hM.out.grow hb1
        clear hb1 hM
        go_wp2_with fail
        refine (RW.out _ M1.out.1).mono ?_
        rintro e u2 ⟨rfl, h3, h4⟩
        have M2 : Hid (Own w u2 w.heap.size (putT (manyT p 16) (p * 16 + g) Gr.zero)) := M1.out.next h3 h4
        have l2 : w.heap.size < u2.heap.size := M2.out.1.2.2
        clear h3 h4 M1
        go_wp2_with fail
        refine (OW.out _ (M2.out.grow (Go.Joins.below_alloc1 _ _)).1).mono ?_
        rintro e u3 ⟨rfl, h3, h4⟩
        have y1 : u3.cell? ⟨u2.heap.size, 1, none⟩ = some (.int .i64 a2) := cell_grown h4 (by simp) (by omega) (by simp)
        have ly : u2.heap.size < u3.heap.size := Nat.lt_of_lt_of_le (by simp) h4.size
        have M3 : Hid (Own w u3 w.heap.size (backT p 16 g)) := (M2.out.grow (Go.Joins.below_alloc1 _ _)).next h3 h4
        clear h3 h4 M2
        go_wp2_with fail
        refine (AW.out _).mono ?_
        rintro e u4 ⟨rfl, hb⟩
        have y2 : u4.cell? ⟨u2.heap.size, 1, none⟩ = some (.int .i64 a2) := (hb.cell (p := ⟨u2.heap.size, 1, none⟩) ly).trans y1
        have M4 : Hid (Own w u4 w.heap.size (backT p 16 g)) := M3.out.grow hb
        clear hb M3 y1 ly
        go_wp2_with fail
        refine (CL.out _ 16 BG.out _ M4.out.1).mono ?_
        rintro e u5 ⟨⟨q5, c5, rfl⟩, h3, h4⟩
        have M5 : Hid (Own w u5 w.heap.size (clrL (backT p 16 g) (ofL (backT p 16 g) p 256))) := M4.out.next h3 h4
        clear h3 h4 M4
        go_wp2_with fail
        refine (OL.out _ 0 (by rw [of_clear]; rfl) _ M5.out.1).mono ?_
        rintro e u6 ⟨⟨q6, c6, rfl⟩, hb⟩
        have M6 := M5.out.grow hb
        clear hb M5
        go_wp2_with fail
        go_ret
        exact ⟨rfl, M6.2.1⟩
      · have h2 : decide ((16 : Int) < (k : Int)) = true := by simp; omega
        have h3 : decide ((k : Int) ≤ 16) = false := by simp; omega
        have LK : Hid ((ofL (manyT p k) p 256).length = 16) := (LM.out k).trans (by omega)
        have HMIN : Hid (min (k : Int) 16 = 16) := by show _ = _; omega
        by_cases g1 : a2 < 0
        · have j1 : decide (a2 < 0) = true := by simp [g1]
          go_wp2_with fail
          refine (OL.out _ 16 LK.out _ hM.out.1).mono ?_
          rintro e u1 ⟨⟨q1, c1, rfl⟩, hb1⟩
          have M1 : Hid (Own w u1 w.heap.size (manyT p k)) := hM.out.grow hb1
          clear hb1 hM
          go_wp2_with fail
          refine (OL.out _ 16 LK.out _ M1.out.1).mono ?_
          rintro e u2 ⟨⟨q2, c2, rfl⟩, hb1⟩
          have M2 : Hid (Own w u2 w.heap.size (manyT p k)) := M1.out.grow hb1
          clear hb1 M1
          go_wp2_with fail
          refine (AW.out _).mono ?_
          rintro e u3 ⟨rfl, hb1⟩
          have M3 : Hid (Own w u3 w.heap.size (manyT p k)) := M2.out.grow hb1
          clear hb1 M2
          go_wp2_with fail
          go_ret
          exact ⟨rfl, M3.out.2.1⟩
        have j1 : decide (a2 < 0) = false := by simp; omega
        by_cases g2 : 16 ≤ a2
        · have j2 : decide (16 ≤ a2) = true := by simp [g2]
          go_wp2_with fail
          refine (OL.out _ 16 LK.out _ hM.out.1).mono ?_
          rintro e u1 ⟨⟨q1, c1, rfl⟩, hb1⟩
          have M1 : Hid (Own w u1 w.heap.size (manyT p k)) := hM.out.grow hb1
          clear hb1 hM
          go_wp2_with fail
          refine (OL.out _ 16 LK.out _ M1.out.1).mono ?_
          rintro e u2 ⟨⟨q2, c2, rfl⟩, hb1⟩
          have M2 : Hid (Own w u2 w.heap.size (manyT p k)) := M1.out.grow hb1
          clear hb1 M1
          go_wp2_with fail
          refine (AW.out _).mono ?_
          rintro e u3 ⟨rfl, hb1⟩
          have M3 : Hid (Own w u3 w.heap.size (manyT p k)) := M2.out.grow hb1
          clear hb1 M2
          go_wp2_with fail
          go_ret
          exact ⟨rfl, M3.out.2.1⟩
        have j2 : decide (16 ≤ a2) = false := by simp; omega
        obtain ⟨g, ea⟩ : ∃ g : Nat, a2 = g := ⟨a2.toNat, by omega⟩
        have hg : g < min k 16 := by omega
        have b0 : 0 ≤ a2 := by omega
        have b1 : a2 < 17 := by omega
        have RW : Hid (∀ W : World, IsTab W w.heap.size (manyT p k) → Calls Try.prog 18 #[.pointer (some ⟨w.heap.size, 0, none⟩), .int .i64 (16 * (p : Int) + a2), .int .i64 p] W fun e w' => e = .returned (.tuple #[.agg #[.int .i64 p, .int .i64 a2, .int .i64 q, .bool false, .bool false, .int .i64 0], .int .i64 0]) ∧ IsTab w' w.heap.size (putT (manyT p k) (p * 16 + g) Gr.zero) ∧ W.grownBy w' (some w.heap.size)) := by rw [ea]; exact RV.out g hg
        have OW : Hid (∀ W : World, IsTab W w.heap.size (putT (manyT p k) (p * 16 + g) Gr.zero) → Calls Try.prog 17 #[.pointer (some ⟨w.heap.size, 0, none⟩), .int .i64 p, .int .i64 99, .int .i64 q, .bool true] W fun e w' => e = .returned (.tuple #[.int .i64 (16 * (p : Int) + a2), .int .i64 0]) ∧ IsTab w' w.heap.size (backT p k g) ∧ W.grownBy w' (some w.heap.size)) := by rw [ea]; exact OG.out g hg
        have BG : Hid ((ofL (backT p k g) p 256).length = 16) := (BL.out g hg).trans (by omega)
        clear ea RV OG BL g1 g2 hg
        go_wp2_with fail
        refine (OL.out _ 16 LK.out _ hM.out.1).mono ?_
        rintro e u1 ⟨⟨q1, c1, rfl⟩, hb1⟩
        have M1 : Hid (Own w u1 w.heap.size (manyT p k)) := hM.out.grow hb1
        clear hb1 hM
        go_wp2_with fail
        refine (RW.out _ M1.out.1).mono ?_
        rintro e u2 ⟨rfl, h3, h4⟩
        have M2 : Hid (Own w u2 w.heap.size (putT (manyT p k) (p * 16 + g) Gr.zero)) := M1.out.next h3 h4
        have l2 : w.heap.size < u2.heap.size := M2.out.1.2.2
        clear h3 h4 M1
        go_wp2_with fail
        refine (OW.out _ (M2.out.grow (Go.Joins.below_alloc1 _ _)).1).mono ?_
        rintro e u3 ⟨rfl, h3, h4⟩
        have y1 : u3.cell? ⟨u2.heap.size, 1, none⟩ = some (.int .i64 a2) := cell_grown h4 (by simp) (by omega) (by simp)
        have ly : u2.heap.size < u3.heap.size := Nat.lt_of_lt_of_le (by simp) h4.size
        have M3 : Hid (Own w u3 w.heap.size (backT p k g)) := (M2.out.grow (Go.Joins.below_alloc1 _ _)).next h3 h4
        clear h3 h4 M2
        go_wp2_with fail
        refine (AW.out _).mono ?_
        rintro e u4 ⟨rfl, hb⟩
        have y2 : u4.cell? ⟨u2.heap.size, 1, none⟩ = some (.int .i64 a2) := (hb.cell (p := ⟨u2.heap.size, 1, none⟩) ly).trans y1
        have M4 : Hid (Own w u4 w.heap.size (backT p k g)) := M3.out.grow hb
        clear hb M3 y1 ly
        go_wp2_with fail
        refine (CL.out _ 16 BG.out _ M4.out.1).mono ?_
        rintro e u5 ⟨⟨q5, c5, rfl⟩, h3, h4⟩
        have M5 : Hid (Own w u5 w.heap.size (clrL (backT p k g) (ofL (backT p k g) p 256))) := M4.out.next h3 h4
        clear h3 h4 M4
        go_wp2_with fail
        refine (OL.out _ 0 (by rw [of_clear]; rfl) _ M5.out.1).mono ?_
        rintro e u6 ⟨⟨q6, c6, rfl⟩, hb⟩
        have M6 := M5.out.grow hb
        clear hb M5
        go_wp2_with fail
        go_ret
        exact ⟨rfl, M6.2.1⟩

theorem own : ownKnob Try.prog.godebug = none := by kernel_rfl
theorem laidOut : laidOutB Try.prog = true := by kernel_rfl
set_option maxRecDepth 100000 in
theorem lifted (os : Os) (started : os.Started) (H : Type) (enc : TypeId × Value → H) :
    ReturnsInHanded {} Try.checked os 5 .any (Rows.shareManySpec.pre6 enc Try.prog Try.f5 Rows.shareManyRow.domain false) (Rows.shareManySpec.post enc Try.prog Try.f5 false true false false) := by
  refine returnsInHanded_of_change (C := Try.checked) own started (by kernel_rfl) Try.func5
    (ChangeSpec.witness6 (enc := enc) (C := Try.checked) false ⟨#[], #[.int .i64 0, .int .i64 0, .int .i64 0], []⟩ 8 (by kernel_rfl) (by kernel_rfl) (by kernel_rfl) (by kernel_rfl)) ?_
  intro W base args ds gs before hval0 hW hcnd _
  have hval : ∀ (j : Nat) t v, Try.f5.params[j]? = some t → args[j]? = some v → Value.okWide Try.prog W .any base t v := hval0
  have hW' := hW
  obtain ⟨p, q, hA0, hV, hbef, hfz, hnd⟩ := hW
  have hA : DataW.TrodAll enc Try.prog W 0 (fun _ => true) true Try.f5.params.toList args.toList ds p := hA0
  have hAk := hA
  have hlt : ∀ x ∈ p, x.block < W.heap.size := fun x hx => hW'.lt x (by rw [hbef]; exact List.mem_append_left _ hx)
  rw [Try.params5] at hA hval
  obtain ⟨v0, vs0, d0, ds0, p0, q0, hargs, rfl, hp0, h0, r0⟩ := trodAll_cons hA
  obtain ⟨v1, vs1, d1, ds1, p1, q1, rfl, rfl, hp1, h1, r1⟩ := trodAll_cons r0
  obtain ⟨v2, vs2, d2, ds2, p2, q2, rfl, rfl, hp2, h2, r2⟩ := trodAll_cons r1
  obtain ⟨rfl, rfl, hpz⟩ := trodAll_nil r2
  obtain rfl : args = #[v0, v1, v2] := by cases args; simp_all
  obtain ⟨rfl, rfl⟩ := trodVars_none hV
  obtain ⟨a0, rfl, _, _, w0⟩ := open_int Try.underlying3 (hval 0 3 v0 rfl rfl) h0
  obtain ⟨a1, rfl, _, _, w1⟩ := open_int Try.underlying3 (hval 1 3 v1 rfl rfl) h1
  obtain ⟨a2, rfl, _, _, w2⟩ := open_int Try.underlying3 (hval 2 3 v2 rfl rfl) h2
  clear hA0 hval0
  refine (walk a0 w0 a1 w1 a2 w2 W ).mono fun e W' ⟨he, hg⟩ => ?_
  subst he
  exact ⟨_, rfl, ⟨_, _, _, [], p, [], hW', (trodAll_cons_mk (shut_bool Try.underlying4 _) trodAll_mk0), args_stay laidOut hg (by kernel_rfl) hAk hlt, rfl, hg.frame _, fun h => by cases h⟩⟩

theorem over : Rows.shareManyRow.holds Try.pinned (OpenSpec.ofChange Rows.shareManySpec) :=
  OpenClaim.holds_of_wide 5 Try.f5 rfl rfl rfl rfl rfl rfl rfl ⟨rfl, rfl, rfl, rfl, rfl⟩ rfl rfl rfl rfl rfl (by kernel_rfl) Try.func5 (by kernel_rfl)
    (of_decide_eq_true (by kernel_rfl)) (by unfold Func.isWrapper; first | (rw [if_pos (by decide +kernel)]; kernel_rfl) | (rw [if_neg (by decide +kernel)]; exact ⟨rfl, rfl⟩))
    (fun os started H enc _ => lifted os started H enc)

theorem proved : Rows.ShareManySaid :=
  over
#print axioms proved
end Go.Proofs.Ytenfdcjnfgjilaa.shareMany
