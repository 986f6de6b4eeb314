/- The document's buddy: Blocks. -/
import Derived.Test.YtpjejjonkdhelaaCA
import Derived.Laws.ShiftsVar
namespace Go.Proofs.Ytpjejjonkdhelaa
open Go.ChangeShapes Go.WideShapes Go.ChangeAt Go.RowKit Go.Maps
set_option linter.unusedSimpArgs false
set_option linter.unusedVariables false
set_option maxRecDepth 8000

theorem pw_facts {o : Nat} (ho : o ≤ 10) : ∃ m : Nat, m = 2 ^ o ∧ 1 ≤ m ∧ m ≤ 1024 ∧ (∀ q : Nat, q = o → IntKind.i64.wrap ((2 : Int) ^ q) = (m : Int)) ∧ (∀ q : Nat, q = o → wrap64 ((2 : Int) ^ q) = (m : Int)) := by
  have l := pow_small ho
  have p := p2pos o
  have h3 := wrap_pow ho
  refine ⟨2 ^ o, rfl, p, l, ?_, ?_⟩
  · rintro q rfl
    rw [Go.IntWalk.i64_left]; exact h3
  · rintro q rfl
    exact h3
theorem asc_app {L : List Int} (a : Asc L) {x : Int} (h : ∀ y, y ∈ L → y < x) : Asc (L ++ [x]) := List.pairwise_append.2 ⟨a, List.pairwise_singleton _ _, fun y hy z hz => by
  have e : z = x := by simpa using hz
  rw [e]; exact h y hy⟩
theorem row_empty (w : World) (base : Nat) (hb : base ≤ w.heap.size) : (w.alloc (.cells #[] 3)).ownsRow base 3 1 (.slice (some ⟨w.heap.size, 0, none⟩) 0 0) ([] : List Int).length (([] : List Int).map (Value.int .i64)) := ⟨rfl, Or.inr ⟨w.heap.size, 0, #[], rfl, hb, own1 w _, by simp, by simp, rfl, rfl⟩⟩
/-- the canonical blocks are those that the loop tells -/
theorem cn_test {F : Nat → Prop} {k j : Nat} (hk : k ≤ 10) : can F k ((j * 2 ^ k : Nat) : Int) ↔ (∀ i, j * 2 ^ k ≤ i → i < j * 2 ^ k + 2 ^ k → F i) ∧ (k = 10 ∨ ¬ ∀ i, (j / 2) * (2 * 2 ^ k) ≤ i → i < (j / 2) * (2 * 2 ^ k) + 2 * 2 ^ k → F i) := by
  rw [can_iff hk]
  have e : 2 ^ (k + 1) = 2 * 2 ^ k := by rw [Nat.pow_succ, Nat.mul_comm]
  unfold cnN
  constructor
  · rintro ⟨h1, h2⟩
    refine ⟨fun i a b => h1 i ((in_blk k j i).2 ⟨a, b⟩), ?_⟩
    rcases h2 with r | ⟨i, r1, r2⟩
    · exact Or.inl r
    · right
      intro h
      have := (in_blk (k + 1) (j / 2) i).1 r1
      rw [e] at this
      exact r2 (h i this.1 this.2)
  · rintro ⟨h1, h2⟩
    refine ⟨fun i hi => h1 i ((in_blk k j i).1 hi).1 ((in_blk k j i).1 hi).2, ?_⟩
    rcases h2 with r | r
    · exact Or.inl r
    · right
      apply Classical.byContradiction
      intro n
      apply r
      intro i a b
      apply Classical.byContradiction
      intro f
      exact n ⟨i, (in_blk (k + 1) (j / 2) i).2 (by rw [e]; exact ⟨a, b⟩), f⟩
theorem up_fits {k j n e m : Nat} (hm : m = 2 ^ k) (hk : k < 10) (hn : n = e * 1024) (h : j * m + m ≤ n) : (j / 2) * (2 * m) + 2 * m ≤ n := by
  obtain ⟨d, hd⟩ : ∃ d, 1024 = d * (2 * m) := ⟨2 ^ (9 - k), by rw [hm, ← Nat.pow_succ', ← Nat.pow_add, show 9 - k + (k + 1) = 10 by omega]⟩
  have hn2 : n = (e * d) * (2 * m) := by rw [hn, hd, Nat.mul_assoc]
  rw [hn2] at h ⊢
  have m0 : 0 < m := by rw [hm]; exact p2pos k
  have h1 : (j / 2) * (2 * m) ≤ j * m := by
    rw [← Nat.mul_assoc]
    exact Nat.mul_le_mul_right m (by omega)
  have h2 : (j / 2) * (2 * m) < (e * d) * (2 * m) := by omega
  have h3 : j / 2 < e * d := Nat.lt_of_mul_lt_mul_right h2
  have h4 := Nat.mul_le_mul_right (2 * m) h3
  rw [Nat.succ_mul] at h4
  exact h4
theorem up_mod (j m : Nat) (m0 : 0 < m) : (j * m) % (2 * m) = j * m - (j / 2) * (2 * m) ∧ (j / 2) * (2 * m) ≤ j * m := by
  have e : j * m = (j / 2) * (2 * m) + (j % 2) * m := by
    rw [← Nat.mul_assoc, ← Nat.add_mul]
    congr 1
    omega
  have l : (j % 2) * m < 2 * m := Nat.mul_lt_mul_of_pos_right (Nat.mod_lt _ (by omega)) m0
  constructor
  · rw [e, Nat.add_comm, Nat.add_mul_mod_self_right, Nat.mod_eq_of_lt l]
    omega
  · omega
set_option maxHeartbeats 1000000 in
theorem rblocks_any (fb n cf : Nat) (gv : Value) (k e : Nat) (hk : k ≤ 10) (F : Nat → Prop) (hF : ∀ i, F i → i < n) (hn : n = e * 1024) (n9 : n ≤ 6144) (w : World) (H : Sn w fb n F) :
    Calls Try.prog 36 #[.agg #[.slice (some ⟨fb, 0, none⟩) n cf, gv], .int .i64 k] w fun e w' => ∃ (v : Value) (L : List Int), e = .returned v ∧ Asc L ∧ (∀ x, x ∈ L ↔ can F k x) ∧ w'.ownsRow w.heap.size 3 1 v L.length (L.map (Value.int .i64)) ∧ Below w.heap.size w w' := by
  obtain ⟨m, hm, m1, m2, wA, wB⟩ := pw_facts hk
  have HM : Hid (m = 2 ^ k) := hm
  have HF : Hid (∀ i, F i → i < n) := hF
  have HN : Hid (n = e * 1024) := hn
  have b0 : Below w.heap.size w (w.alloc (.cells #[.slice (some ⟨fb, 0, none⟩) n cf, gv] 35)) := Go.Joins.below_alloc1 _ _
  have H1 := H.block (b0.block fb H.lt)
  have ow := own1 w (.cells #[.slice (some ⟨fb, 0, none⟩) n cf, gv] 35)
  have lw : w.heap.size < (w.alloc (.cells #[.slice (some ⟨fb, 0, none⟩) n cf, gv] 35)).heap.size := by rw [World.size_alloc]; omega
  have B0 : Hid (Below w.heap.size w (w.alloc (.cells #[.slice (some ⟨fb, 0, none⟩) n cf, gv] 35))) := b0
  clear H b0 hm hF hn
  go_enter Try.func36, Try.ntmps36
  go_upto_region 1 with fail
  generalize w.alloc (.cells #[.slice (some ⟨fb, 0, none⟩) n cf, gv] 35) = w1 at *
  have LB : Hid (w.heap.size < w1.heap.size) := lw
  generalize hr : w.heap.size = r at *
  have CC : Hid (∀ W, Below w1.heap.size w1 W → (W.cell? ⟨r, 0, none⟩ = some (.slice (some ⟨fb, 0, none⟩) n cf) ∧ W.cell? ⟨r, 1, none⟩ = some gv) ∧ r < W.heap.size ∧ Sn W fb n F) := fun W b => by
    have e := (b.block r lw).trans ow
    exact ⟨⟨by rw [Go.Joins.cell_of_block e]; rfl, by rw [Go.Joins.cell_of_block e]; rfl⟩, blk_lt e, H1.block (b.block fb H1.lt)⟩
  have J0 : Hid (Below w1.heap.size w1 (w1.alloc (.cells #[] 3)) ∧ (w1.alloc (.cells #[] 3)).ownsRow w1.heap.size 3 1 (.slice (some ⟨w1.heap.size, 0, none⟩) 0 0) ([] : List Int).length (([] : List Int).map (Value.int .i64)) ∧ Asc ([] : List Int) ∧ ∀ x, x ∈ ([] : List Int) ↔ can F k x ∧ x < ((0 * m : Nat) : Int)) := ⟨Go.Joins.below_alloc1 _ _, row_empty w1 _ (Nat.le_refl _), List.Pairwise.nil, fun x => by
    constructor
    · intro h; exact absurd h List.not_mem_nil
    · rintro ⟨⟨_, q, rfl, _⟩, h⟩; omega⟩
  have HR : Hid (w.heap.size = r) := hr
  clear H1 ow lw hr
  go_wp2_with fail
  go_loopw [5, 7, 8] (fun v va _ W => ∃ (j : Nat) (L : List Int), j ≤ 7000 ∧ va = .int .i64 (j * m : Nat) ∧ Hid (Below w1.heap.size w1 W ∧ W.ownsRow w1.heap.size 3 1 v L.length (L.map (Value.int .i64)) ∧ Asc L ∧ ∀ x, x ∈ L ↔ can F k x ∧ x < ((j * m : Nat) : Int)) ∧ Hid (j * m ≤ n)) (fun _ va _ _ => n + 1024 - (Go.RowKit.intOf va).toNat)
  case atStart => exact ⟨0, [], by omega, by simp, J0, by show 0 * m ≤ n; omega⟩
  case round =>
    clear J0
    obtain ⟨j, L, hj, rfl, hJ, hJn⟩ := hrel
    obtain ⟨a, ha⟩ : ∃ a : Nat, a = j * m := ⟨_, rfl⟩
    have HA : Hid (a = j * m) := ha
    have an : a ≤ n := by rw [ha]; exact hJn.out
    rw [← ha]
    obtain ⟨⟨c0, c1⟩, lr, hS⟩ := CC.out _ hJ.out.1
    by_cases ca : a + m ≤ n
    rotate_left
    · have d1 : decide ((a : Int) + (m : Int) ≤ (n : Int)) = false := by simp; omega
      have FIN : Hid (Asc L ∧ (∀ x, x ∈ L ↔ can F k x) ∧ wr.ownsRow r 3 1 u5 L.length (L.map (Value.int .i64)) ∧ Below r w wr) := by
        obtain ⟨h1, h2, h3, h4⟩ := hJ.out
        refine ⟨h3, fun x => ?_, ownsRow_base_a h2 (Nat.le_of_lt LB.out), B0.out.trans (h1.mono (Nat.le_of_lt LB.out))⟩
        rw [h4]
        refine ⟨fun h => h.1, fun h => ⟨h, ?_⟩⟩
        obtain ⟨_, q, rfl, cq⟩ := h
        have l := HF.out _ (can_last cq)
        have hm := HM.out
        have pp := p2pos k
        rw [← hm] at l ⊢
        have l2 : q * m + m ≤ n := by omega
        have : q * m < j * m := by rw [← ha]; omega
        omega
      clear hJ hS ha
      go_wp2_with fail
      go_ret
      have FN := FIN.out
      rw [← HR.out] at FN
      exact ⟨_, L, rfl, FN⟩
    have d1 : decide ((a : Int) + (m : Int) ≤ (n : Int)) = true := by simp; omega
    have RB : Hid (∀ W, Below wr.heap.size wr W → Below w1.heap.size w1 W ∧ W.ownsRow w1.heap.size 3 1 u5 L.length (L.map (Value.int .i64))) := fun W hb => ⟨hJ.out.1.trans (hb.mono hJ.out.1.size), row_keep hJ.out.2.1 (fun g e => hb.block g (row_lt hJ.out.2.1 g e).2)⟩
    have j9 : j ≤ 6144 := by
      have : j * 1 ≤ j * m := Nat.mul_le_mul_left j m1
      rw [← ha] at this
      omega
    have CONT : Hid (¬ can F k (a : Int) → ∀ W, Below wr.heap.size wr W → Below w1.heap.size w1 W ∧ W.ownsRow w1.heap.size 3 1 u5 L.length (L.map (Value.int .i64)) ∧ Asc L ∧ ∀ x, x ∈ L ↔ can F k x ∧ x < (((j + 1) * m : Nat) : Int)) := fun nc W hb => by
      obtain ⟨h1, h2, h3, h4⟩ := hJ.out
      refine ⟨(RB.out W hb).1, (RB.out W hb).2, h3, fun x => ?_⟩
      rw [h4]
      refine ⟨fun h => ⟨h.1, ?_⟩, fun h => ⟨h.1, ?_⟩⟩
      · have := h.2
        rw [Nat.succ_mul]; omega
      · obtain ⟨hc, hl⟩ := h
        have hc2 := hc
        obtain ⟨_, q, rfl, cq⟩ := hc
        have hm := HM.out
        rw [← hm] at hl hc2 ⊢
        have l1 : q * m < (j + 1) * m := by omega
        have l2 : q < j + 1 := Nat.lt_of_mul_lt_mul_right l1
        have l3 : q ≠ j := fun e => nc (by rw [ha, ← e]; exact hc2)
        have l4 : (q + 1) * m ≤ j * m := Nat.mul_le_mul_right m (by omega)
        rw [Nat.succ_mul] at l4
        omega
    have APP : Hid (can F k (a : Int) → ∀ W, Below wr.heap.size wr W → ∃ v' W2, (Builtin.append_ #[44, 44] 44 #[u5, .slice (some ⟨W.heap.size, 0, none⟩) 1 1]).run Try.prog (W.alloc (.cells #[.int .i64 (a : Int)] 3)) = .ok v' W2 ∧ (Below w1.heap.size w1 W2 ∧ W2.ownsRow w1.heap.size 3 1 v' (L ++ [(a : Int)]).length ((L ++ [(a : Int)]).map (Value.int .i64)) ∧ Asc (L ++ [(a : Int)]) ∧ ∀ x, x ∈ (L ++ [(a : Int)]) ↔ can F k x ∧ x < (((j + 1) * m : Nat) : Int))) := fun hc W hb => by
      obtain ⟨h1, h2, h3, h4⟩ := hJ.out
      obtain ⟨g1, g2⟩ := RB.out W hb
      have ll : L.length ≤ 1048576 := by
        have := asc_nd h3
        have e1 := cnt_list 0 1048576 L (asc_nd h3) (fun x hx => by
          obtain ⟨⟨_, q, rfl, _⟩, h⟩ := (h4 x).1 hx
          exact ⟨q * 2 ^ k, by simp, by simp; omega⟩)
        have := cnt_le (inL 0 L) 1048576
        simp at e1
        omega
      obtain ⟨v', W2, r, ho, hg, hat⟩ := app_row w1.heap.size u5 L (a : Int) ll W g2 g1.size (fun g e => (row_lt g2 g e).2)
      refine ⟨v', W2, r, ?_, ho, asc_app h3 (fun y hy => by have := ((h4 y).1 hy).2; omega), fun x => ?_⟩
      · have b2 : Below w1.heap.size w1 (W.alloc (.cells #[.int .i64 (a : Int)] 3)) := g1.alloc g1.size _
        refine b2.trans ⟨hg.os, hg.tape, hg.output, hg.size, fun x hx => hg.block x (Nat.lt_of_lt_of_le hx b2.size) (fun e => ?_)⟩
        have := (row_lt g2 x e.symm).1
        omega
      · rw [List.mem_append, List.mem_singleton, h4]
        constructor
        · rintro (h | h)
          · exact ⟨h.1, by have := h.2; rw [Nat.succ_mul]; omega⟩
          · subst h; exact ⟨hc, by rw [Nat.succ_mul]; omega⟩
        · rintro ⟨h1', h2'⟩
          have h3' := h1'
          obtain ⟨_, q, rfl, cq⟩ := h1'
          have hm := HM.out
          rw [← hm] at h2' h3' ⊢
          have l1 : q * m < (j + 1) * m := by omega
          have l2 : q < j + 1 := Nat.lt_of_mul_lt_mul_right l1
          by_cases c : q = j
          · right; rw [c, ← ha]
          · left
            have l4 : (q + 1) * m ≤ j * m := Nat.mul_le_mul_right m (by omega)
            rw [Nat.succ_mul] at l4
            exact ⟨h3', by omega⟩
    have TST : Hid (can F k (a : Int) ↔ (∀ i, a ≤ i → i < a + m → F i) ∧ (k = 10 ∨ ¬ ∀ i, (j / 2) * (2 * m) ≤ i → i < (j / 2) * (2 * m) + 2 * m → F i)) := by
      have t := cn_test (F := F) (k := k) (j := j) hk
      rw [← HM.out, ← ha] at t
      exact t
    have AC1 : Hid (∀ z : Bool, (z = true ↔ ∀ i, a ≤ i → i < a + m → F i) → Calls Try.prog 44 #[.agg #[.slice (some ⟨fb, 0, none⟩) n cf, gv], .int .i64 a, .int .i64 m] wr fun e w' => e = .returned (.bool z) ∧ Below wr.heap.size wr w') := fun z hz => rall_any fb n cf gv a m F z hz ca (by omega) wr hS
    clear hJ hS ha
    by_cases A : ∀ i, a ≤ i → i < a + m → F i
    rotate_left
    · have A1 : Hid _ := AC1.out false ⟨(fun h => by cases h), fun h => absurd h A⟩
      have CONT : Hid _ := CONT.out (fun h => A (TST.out.1 h).1)
      clear A AC1 APP TST RB
      go_wp2_with fail
      refine Calls.mono A1.out ?_
      rintro e u1 ⟨rfl, hb⟩
      have HU : Hid (Below wr.heap.size wr u1) := hb
      clear hb A1
      go_wp2_with fail
      go_roundw
      case rel => exact ⟨j + 1, L, by omega, by congr 1; rw [Nat.succ_mul, ← HA.out]; omega, CONT.out _ HU.out, by show (j + 1) * m ≤ n; rw [Nat.succ_mul, ← HA.out]; omega⟩
      case measure => simp [Go.RowKit.intOf]; omega
    have A1 : Hid _ := AC1.out true ⟨fun _ => A, fun _ => rfl⟩
    obtain ⟨um, ul⟩ := up_mod j m m1
    obtain ⟨up, hup⟩ : ∃ up : Nat, up = (j / 2) * (2 * m) := ⟨_, rfl⟩
    obtain ⟨rr, hrr⟩ : ∃ rr : Nat, rr = a % (2 * m) := ⟨_, rfl⟩
    have tm : (a : Int).tmod (2 * (m : Int)) = (rr : Int) := by
      have e : 2 * (m : Int) = ((2 * m : Nat) : Int) := by omega
      rw [e, ← Int.ofNat_tmod, hrr]
    have sb : (a : Int) - (rr : Int) = (up : Int) := by
      rw [← HA.out, ← hup] at um ul
      omega
    have rl : rr ≤ a := by rw [hrr]; exact Nat.mod_le _ _
    have nz1 : ((2 * (m : Int)) == 0) = false := by simp; omega
    have nz2 : ¬ (2 * (m : Int)) = 0 := by omega
    rw [← hup] at TST
    have HUP : Hid (up = (j / 2) * (2 * m)) := hup
    clear AC1 um ul hrr hup
    by_cases k10 : k = 10
    · have e10 : ((k : Int) == 10) = true := by simp; omega
      have APP : Hid _ := APP.out (TST.out.2 ⟨A, Or.inl k10⟩)
      clear A TST CONT k10
      go_wp2_with fail
      refine Calls.mono A1.out ?_
      rintro e u1 ⟨rfl, hb⟩
      have HU : Hid (Below wr.heap.size wr u1) := hb
      obtain ⟨⟨e0, e1⟩, le, _⟩ := CC.out _ (RB.out u1 hb).1
      clear hb A1
      go_upto_region 9 with fail
      obtain ⟨v', W2, r2, hJ3⟩ := APP.out _ HU.out
      have J3 : Hid _ := hJ3
      clear hJ3
      go_wp2_with (at_builtin; refine wpList_app rfl _ _ 44 rfl u5 (.slice (some ⟨u1.heap.size, 0, none⟩) 1 1) rfl rfl v' W2 r2 ?_)
      go_roundw
      case rel => exact ⟨j + 1, L ++ [(a : Int)], by omega, by congr 1; rw [Nat.succ_mul, ← HA.out]; omega, J3.out, by show (j + 1) * m ≤ n; rw [Nat.succ_mul, ← HA.out]; omega⟩
      case measure => simp [Go.RowKit.intOf]; omega
    have e10 : ((k : Int) == 10) = false := by simp; omega
    have uf : up + 2 * m ≤ n := by rw [HUP.out]; exact up_fits HM.out (by omega) HN.out (by rw [← HA.out]; exact ca)
    have AC2 : Hid (∀ (W : World) (z : Bool), Sn W fb n F → (z = true ↔ ∀ i, up ≤ i → i < up + 2 * m → F i) → Calls Try.prog 44 #[.agg #[.slice (some ⟨fb, 0, none⟩) n cf, gv], .int .i64 up, .int .i64 (2 * (m : Int))] W fun e w' => e = .returned (.bool z) ∧ Below W.heap.size W w') := fun W z h hz => by
      have r := rall_any fb n cf gv up (2 * m) F z hz uf (by omega) W h
      rw [show ((2 * m : Nat) : Int) = 2 * (m : Int) by omega] at r
      exact r
    by_cases Bq : ∀ i, up ≤ i → i < up + 2 * m → F i
    · have CONT : Hid _ := CONT.out (fun h => by
        rcases (TST.out.1 h).2 with q | q
        · exact k10 q
        · exact q Bq)
      have A2 : Hid (∀ W, Sn W fb n F → Calls Try.prog 44 #[.agg #[.slice (some ⟨fb, 0, none⟩) n cf, gv], .int .i64 up, .int .i64 (2 * (m : Int))] W fun e w' => e = .returned (.bool true) ∧ Below W.heap.size W w') := fun W h => AC2.out W true h ⟨fun _ => Bq, fun _ => rfl⟩
      clear A TST APP k10 Bq AC2
      go_wp2_with fail
      refine Calls.mono A1.out ?_
      rintro e u1 ⟨rfl, hb⟩
      have HU1 : Hid (Below wr.heap.size wr u1) := hb
      obtain ⟨⟨e0, e1⟩, le, hS1⟩ := CC.out _ (RB.out u1 hb).1
      have A3 : Hid _ := A2.out u1 hS1
      clear hb A1 A2 hS1
      go_wp2_with fail
      refine Calls.mono A3.out ?_
      rintro e u2 ⟨rfl, hb⟩
      have HU : Hid (Below wr.heap.size wr u2) := HU1.out.trans (hb.mono HU1.out.size)
      clear hb A3
      go_wp2_with fail
      go_roundw
      case rel => exact ⟨j + 1, L, by omega, by congr 1; rw [Nat.succ_mul, ← HA.out]; omega, CONT.out _ HU.out, by show (j + 1) * m ≤ n; rw [Nat.succ_mul, ← HA.out]; omega⟩
      case measure => simp [Go.RowKit.intOf]; omega
    have APP : Hid _ := APP.out (TST.out.2 ⟨A, Or.inr Bq⟩)
    have A2 : Hid (∀ W, Sn W fb n F → Calls Try.prog 44 #[.agg #[.slice (some ⟨fb, 0, none⟩) n cf, gv], .int .i64 up, .int .i64 (2 * (m : Int))] W fun e w' => e = .returned (.bool false) ∧ Below W.heap.size W w') := fun W h => AC2.out W false h ⟨(fun h => by cases h), fun h => absurd h Bq⟩
    clear A TST CONT k10 Bq AC2
    go_wp2_with fail
    refine Calls.mono A1.out ?_
    rintro e u0 ⟨rfl, hb⟩
    have HU1 : Hid (Below wr.heap.size wr u0) := hb
    obtain ⟨⟨e0, e1⟩, le, hS1⟩ := CC.out _ (RB.out u0 hb).1
    have A3 : Hid _ := A2.out u0 hS1
    clear hb A1 A2 hS1
    go_wp2_with fail
    refine Calls.mono A3.out ?_
    rintro e u1 ⟨rfl, hb⟩
    have HU : Hid (Below wr.heap.size wr u1) := HU1.out.trans (hb.mono HU1.out.size)
    clear hb A3
    go_upto_region 9 with fail
    obtain ⟨v', W2, r2, hJ3⟩ := APP.out _ HU.out
    have J3 : Hid _ := hJ3
    clear hJ3
    go_wp2_with (at_builtin; refine wpList_app rfl _ _ 44 rfl u5 (.slice (some ⟨u1.heap.size, 0, none⟩) 1 1) rfl rfl v' W2 r2 ?_)
    go_roundw
    case rel => exact ⟨j + 1, L ++ [(a : Int)], by omega, by congr 1; rw [Nat.succ_mul, ← HA.out]; omega, J3.out, by show (j + 1) * m ≤ n; rw [Nat.succ_mul, ← HA.out]; omega⟩
    case measure => simp [Go.RowKit.intOf]; omega
end Go.Proofs.Ytpjejjonkdhelaa
