/- For any order, place and lesser order: a block that is taken by halves, and given back, is one again; of one range that begins at a multiple of its size; no condition. -/
import Derived.Test.YtpjejjonkdhelaaRows
import Derived.ProofKit
import Derived.OpenShut
import Derived.Carry
import Derived.Test.YtpjejjonkdhelaaBDR
import Derived.Laws.ShiftsVar
namespace Go.Proofs.Ytpjejjonkdhelaa.buddyHalves
open Go.ChangeShapes Go.WideShapes Go.ChangeAt Go.RowKit Go.Maps
set_option linter.unusedSimpArgs false
set_option linter.unusedVariables false
theorem pw_facts {o : Nat} (ho : o ≤ 10) : ∃ m : Nat, m = 2 ^ o ∧ 1 ≤ m ∧ m ≤ 1024 ∧ (∀ q : Nat, q = o → IntKind.i64.wrap ((2 : Int) ^ q) = (m : Int)) ∧ (∀ q : Nat, q = o → wrap64 ((2 : Int) ^ q) = (m : Int)) := by
  have l := pow_small ho
  have p := p2pos o
  have h3 := wrap_pow ho
  refine ⟨2 ^ o, rfl, p, l, ?_, ?_⟩
  · rintro q rfl
    rw [Go.IntWalk.i64_left]; exact h3
  · rintro q rfl
    exact h3
theorem mul_up {e o d x : Nat} (h : x = e * 2 ^ (o + d)) : x = (e * 2 ^ d) * 2 ^ o := by
  rw [h, Nat.mul_assoc, ← Nat.pow_add, Nat.add_comm d o]
theorem mul_lt_succ {a c s : Nat} (h : a * s < c * s) : a * s + s ≤ c * s := by
  have : a < c := Nat.lt_of_mul_lt_mul_right h
  have := Nat.mul_le_mul_right s this
  rw [Nat.succ_mul] at this
  exact this
/-- of a row of frames that ends at a multiple of a block, the first block is the least -/
theorem low_first {x B order less c e p f q d : Nat} (hx : x = c * 2 ^ less) (hB : B = e * 2 ^ order) (hlt : x < B) (hlen : B ≤ x + 2 ^ order) (ho : order ≤ 10) (hl : less ≤ order) (T : Took (fun i => x ≤ i ∧ i < B) less p f q d) : p = c := by
  obtain ⟨dd, hdd⟩ : ∃ dd, order = less + dd := ⟨order - less, by omega⟩
  have hB2 : B = (e * 2 ^ dd) * 2 ^ less := mul_up (by rw [hB, hdd])
  have first : ∀ i, i / 2 ^ less = c → x ≤ i ∧ i < B := fun i hi => by
    have := (in_blk less c i).1 hi
    rw [← hx] at this
    have l := mul_lt_succ (a := c) (c := e * 2 ^ dd) (s := 2 ^ less) (by rw [← hx, ← hB2]; exact hlt)
    rw [← hx, ← hB2] at l
    omega
  obtain ⟨o', q', g1, g2, g3, g4⟩ := cn_max (fun i => x ≤ i ∧ i < B) (10 - less) less c (by omega) first
  have sx : q' * 2 ^ o' = x := by
    have h1 := (g3.1 _ (blk_ne o' q')).1
    have h2 := ((in_blk o' q' x).1 (g4 x (by rw [hx]; exact blk_ne less c))).1
    omega
  have pp := p2pos o'
  have oo : o' ≤ order := by
    apply Classical.byContradiction
    intro n
    have l := (can_last g3).2
    rw [sx] at l
    have : 2 ^ order < 2 ^ o' := Nat.pow_lt_pow_right (by omega) (by omega)
    omega
  have fo : f ≤ o' := by
    apply Classical.byContradiction
    intro n
    exact T.less o' g1 (by omega) q' g3
  have mp := T.mul
  by_cases fe : f = o'
  · subst fe
    have l := T.low q' g3
    have h1 := (T.cn.1 _ (blk_ne f q)).1
    have h2 : q' * 2 ^ f ≤ q * 2 ^ f := by rw [sx]; exact h1
    have h3 : q' ≤ q := Nat.le_of_mul_le_mul_right h2 (p2pos f)
    have : q = q' := by omega
    subst this
    rw [sx, hx] at mp
    exact Nat.eq_of_mul_eq_mul_right (p2pos less) mp
  · exfalso
    have f1 : f + 1 ≤ o' := by omega
    rcases T.cn.2 with r | ⟨j, r1, r2⟩
    · omega
    · apply r2
      -- frame z of block q lies behind the first block
      have hz := T.cn.1 _ (blk_ne f q)
      have far : x + 2 ^ o' ≤ q * 2 ^ f := by
        apply Classical.byContradiction
        intro n
        have hz1 : x ≤ q * 2 ^ f := hz.1
        have : (q * 2 ^ f) / 2 ^ o' = q' := (in_blk o' q' _).2 ⟨by rw [sx]; exact hz1, by rw [sx]; omega⟩
        have := cn_dj T.cn g3 T.top g2 (blk_ne f q) this
        omega
      -- the parent lies between two multiples
      obtain ⟨d1, hd1⟩ : ∃ d1, o' = f + 1 + d1 := ⟨o' - (f + 1), by omega⟩
      obtain ⟨d2, hd2⟩ : ∃ d2, order = f + 1 + d2 := ⟨order - (f + 1), by omega⟩
      have m1 : x + 2 ^ o' = ((q' + 1) * 2 ^ d1) * 2 ^ (f + 1) := mul_up (by rw [← sx, ← hd1, Nat.succ_mul])
      have m2 : B = (e * 2 ^ d2) * 2 ^ (f + 1) := mul_up (by rw [hB, hd2])
      have pz : (q * 2 ^ f) / 2 ^ (f + 1) = q / 2 := by rw [div_one, blk_ne]
      have jb := (in_blk (f + 1) (q / 2) j).1 r1
      have zb := (in_blk (f + 1) (q / 2) _).1 pz
      have lo : (q' + 1) * 2 ^ d1 ≤ q / 2 := by
        apply Classical.byContradiction
        intro n
        have h1 : (q / 2 + 1) * 2 ^ (f + 1) ≤ ((q' + 1) * 2 ^ d1) * 2 ^ (f + 1) := Nat.mul_le_mul_right _ (by omega)
        rw [← m1, Nat.succ_mul] at h1
        omega
      have hi : q / 2 + 1 ≤ e * 2 ^ d2 := by
        apply Classical.byContradiction
        intro n
        have h1 : (e * 2 ^ d2) * 2 ^ (f + 1) ≤ (q / 2) * 2 ^ (f + 1) := Nat.mul_le_mul_right _ (by omega)
        rw [← m2] at h1
        have := hz.2
        omega
      have lo2 := Nat.mul_le_mul_right (2 ^ (f + 1)) lo
      have hi2 := Nat.mul_le_mul_right (2 ^ (f + 1)) hi
      rw [← m1] at lo2
      rw [← m2, Nat.succ_mul] at hi2
      exact ⟨by omega, by omega⟩
open Classical in
/-- what is given behind i of the takes -/
noncomputable def gI (A s less i : Nat) : Int → Option Int := fun x => if ∃ j, j < i ∧ x = ((A + j * s : Nat) : Int) then some (less : Int) else none
theorem gi_yes {A s less i j : Nat} (h : j < i) : gI A s less i ((A + j * s : Nat) : Int) = some (less : Int) := if_pos ⟨j, h, rfl⟩
theorem gi_zero (A s less : Nat) : gI A s less 0 = noneF := by
  funext x
  exact if_neg (fun ⟨j, h, _⟩ => absurd h (Nat.not_lt_zero _))
theorem gi_next {A s less i : Nat} : setF (gI A s less i) ((A + i * s : Nat) : Int) (some (less : Int)) = gI A s less (i + 1) := by
  funext x
  by_cases c : x = ((A + i * s : Nat) : Int)
  · rw [c, set_same, gi_yes (Nat.lt_succ_self i)]
  · rw [set_other _ _ _ _ c]
    unfold gI
    by_cases d : ∃ j, j < i ∧ x = ((A + j * s : Nat) : Int)
    · obtain ⟨j, h1, h2⟩ := d
      rw [if_pos ⟨j, h1, h2⟩, if_pos ⟨j, by omega, h2⟩]
    · rw [if_neg d, if_neg (fun ⟨j, h1, h2⟩ => by
        by_cases e : j = i
        · subst e; exact c h2
        · exact d ⟨j, by omega, h2⟩)]
theorem gi_back {A s less i : Nat} (hs : 0 < s) : setF (gI A s less (i + 1)) ((A + i * s : Nat) : Int) none = gI A s less i := by
  funext x
  by_cases c : x = ((A + i * s : Nat) : Int)
  · rw [c, set_same]
    unfold gI
    rw [if_neg (fun ⟨j, h1, h2⟩ => by
      have e : A + i * s = A + j * s := Int.ofNat.inj h2
      have : i = j := Nat.eq_of_mul_eq_mul_right hs (by omega)
      omega)]
  · rw [set_other _ _ _ _ c]
    unfold gI
    by_cases d : ∃ j, j < i ∧ x = ((A + j * s : Nat) : Int)
    · obtain ⟨j, h1, h2⟩ := d
      rw [if_pos ⟨j, by omega, h2⟩, if_pos ⟨j, h1, h2⟩]
    · rw [if_neg (fun ⟨j, h1, h2⟩ => by
        by_cases e : j = i
        · subst e; exact c h2
        · exact d ⟨j, by omega, h2⟩), if_neg d]
/-- of the row from frame A + i * s one block less -/
theorem seg_less {A B i less s c : Nat} (hs : s = 2 ^ less) (hA : A + i * s = c * 2 ^ less) : (fun x => (A + i * s ≤ x ∧ x < B) ∧ ¬ x / 2 ^ less = c) = (fun x => A + (i + 1) * s ≤ x ∧ x < B) := by
  funext x; apply propext
  rw [in_blk, ← hA, ← hs, Nat.succ_mul]
  generalize i * s = y
  omega
theorem seg_back {A B i less s c : Nat} (hs : s = 2 ^ less) (hA : A + i * s = c * 2 ^ less) (hB : A + (i + 1) * s ≤ B) : (fun x => (A + (i + 1) * s ≤ x ∧ x < B) ∨ x / 2 ^ less = c) = (fun x => A + i * s ≤ x ∧ x < B) := by
  funext x; apply propext
  rw [in_blk, ← hA, ← hs]
  rw [Nat.succ_mul] at hB ⊢
  have hs0 : 0 < s := by rw [hs]; exact p2pos less
  generalize i * s = y at *
  omega
theorem can_whole {A order c : Nat} (ho : order ≤ 10) (hA : A = c * 2 ^ order) (x : Int) : can (fun i => A ≤ i ∧ i < A + 2 ^ order) order x ↔ x = (A : Int) := by
  have e : (fun i => A ≤ i ∧ i < A + 2 ^ order) = (fun i => i / 2 ^ order = c) := by
    funext i; apply propext
    rw [in_blk, ← hA]
  rw [e]
  constructor
  · rintro ⟨_, q, hq, cq⟩
    have h1 : (q * 2 ^ order) / 2 ^ order = c := cq.1 _ (blk_ne order q)
    have h2 : q = c := by rw [blk_ne] at h1; exact h1
    rw [hq, h2, hA]
  · intro hx
    refine ⟨ho, c, by rw [hx, hA], fun i hi => hi, ?_⟩
    by_cases t : order = 10
    · exact Or.inl t
    · refine Or.inr ⟨bud c * 2 ^ order, by rw [div_one, blk_ne, bud_half], ?_⟩
      show ¬ (bud c * 2 ^ order) / 2 ^ order = c
      rw [blk_ne]
      exact bud_ne c
theorem lst_one (w : World) (A : Nat) : Lst (w.alloc (.cells #[.int .i64 A] 3)) (.slice (some ⟨w.heap.size, 0, none⟩) 1 1) [(A : Int)] := by
  have ow := own1 w (.cells #[.int .i64 A] 3)
  refine ⟨_, _, rfl, fun i hi => ⟨w.heap.size, rfl, blk_lt ow, ?_⟩⟩
  obtain rfl : i = 0 := by simp at hi; omega
  rw [Go.Joins.cell_of_block ow]; rfl
theorem sum_up {a s n mo i : Nat} (e : n * s = mo) (h : i < n) : i * s + s ≤ mo := by
  rw [← e]
  have := Nat.mul_le_mul_right s h
  rw [Nat.succ_mul] at this
  exact this

set_option maxRecDepth 8000 in
set_option maxHeartbeats 16000000 in
theorem walk (a0 : Int) (w0 : (Lit.int .i64 a0).wf = true) (a1 : Int) (w1 : (Lit.int .i64 a1).wf = true) (a2 : Int) (w2 : (Lit.int .i64 a2).wf = true) (w : World)  :
    Calls Try.prog 7 #[.int .i64 a0, .int .i64 a1, .int .i64 a2] w fun e w' => e = .returned (.bool true) ∧ Below w.heap.size w w' := by
  have AWH : Hid (∀ W : World, Calls Try.prog 12 #[] W fun e w' => e = .returned (.bool true) ∧ Below W.heap.size W w') := fun W => awake_any W
  by_cases hg : 0 ≤ a0 ∧ a0 ≤ 10 ∧ 0 ≤ a1 ∧ a1 ≤ 900 ∧ 0 ≤ a2 ∧ a2 ≤ a0
  rotate_left
  · by_cases c1 : a0 < 0
    · have d1 : decide (a0 < 0) = true := by simp [c1]
      clear hg
      go_enter Try.func7, Try.ntmps7
      go_wp2_with fail
      refine Calls.mono (AWH.out _) ?_
      rintro e u ⟨rfl, hb⟩
      have HB : Hid (Below w.heap.size w u) := hb
      clear hb
      go_wp2_with fail
      go_ret
      exact ⟨rfl, HB.out⟩

    have d1 : decide (a0 < 0) = false := by simp; omega
    by_cases c2 : 10 < a0
    · have d2 : decide (10 < a0) = true := by simp [c2]
      clear hg
      go_enter Try.func7, Try.ntmps7
      go_wp2_with fail
      refine Calls.mono (AWH.out _) ?_
      rintro e u ⟨rfl, hb⟩
      have HB : Hid (Below w.heap.size w u) := hb
      clear hb
      go_wp2_with fail
      go_ret
      exact ⟨rfl, HB.out⟩

    have d2 : decide (10 < a0) = false := by simp; omega
    by_cases c3 : a1 < 0
    · have d3 : decide (a1 < 0) = true := by simp [c3]
      clear hg
      go_enter Try.func7, Try.ntmps7
      go_wp2_with fail
      refine Calls.mono (AWH.out _) ?_
      rintro e u ⟨rfl, hb⟩
      have HB : Hid (Below w.heap.size w u) := hb
      clear hb
      go_wp2_with fail
      go_ret
      exact ⟨rfl, HB.out⟩

    have d3 : decide (a1 < 0) = false := by simp; omega
    by_cases c4 : 900 < a1
    · have d4 : decide (900 < a1) = true := by simp [c4]
      clear hg
      go_enter Try.func7, Try.ntmps7
      go_wp2_with fail
      refine Calls.mono (AWH.out _) ?_
      rintro e u ⟨rfl, hb⟩
      have HB : Hid (Below w.heap.size w u) := hb
      clear hb
      go_wp2_with fail
      go_ret
      exact ⟨rfl, HB.out⟩

    have d4 : decide (900 < a1) = false := by simp; omega
    by_cases c5 : a2 < 0
    · have d5 : decide (a2 < 0) = true := by simp [c5]
      clear hg
      go_enter Try.func7, Try.ntmps7
      go_wp2_with fail
      refine Calls.mono (AWH.out _) ?_
      rintro e u ⟨rfl, hb⟩
      have HB : Hid (Below w.heap.size w u) := hb
      clear hb
      go_wp2_with fail
      go_ret
      exact ⟨rfl, HB.out⟩

    have d5 : decide (a2 < 0) = false := by simp; omega
    have d6 : decide (a0 < a2) = true := by simp; omega
    clear hg
    go_enter Try.func7, Try.ntmps7
    go_wp2_with fail
    refine Calls.mono (AWH.out _) ?_
    rintro e u ⟨rfl, hb⟩
    have HB : Hid (Below w.heap.size w u) := hb
    clear hb
    go_wp2_with fail
    go_ret
    exact ⟨rfl, HB.out⟩

  obtain ⟨order, rfl⟩ : ∃ o : Nat, a0 = (o : Int) := ⟨a0.toNat, by omega⟩
  obtain ⟨a, rfl⟩ : ∃ o : Nat, a1 = (o : Int) := ⟨a1.toNat, by omega⟩
  obtain ⟨less, rfl⟩ : ∃ o : Nat, a2 = (o : Int) := ⟨a2.toNat, by omega⟩
  have o10 : order ≤ 10 := by omega
  have a9 : a ≤ 900 := by omega
  have lo : less ≤ order := by omega
  clear hg w0 w1 w2
  have d1 : decide ((order : Int) < 0) = false := by simp
  have d2 : decide ((10 : Int) < (order : Int)) = false := by simp; omega
  have d3 : decide ((a : Int) < 0) = false := by simp
  have d4 : decide ((900 : Int) < (a : Int)) = false := by simp; omega
  have d5 : decide ((less : Int) < 0) = false := by simp
  have d6 : decide ((order : Int) < (less : Int)) = false := by simp; omega
  obtain ⟨mo, hmo, mo1, mo2, wA, wB⟩ := pw_facts o10
  obtain ⟨s, hs, s1, s2, vA, vB⟩ := pw_facts (o := less) (by omega)
  obtain ⟨dd, hdd⟩ : ∃ dd : Nat, order = less + dd := ⟨order - less, by omega⟩
  obtain ⟨n, hn, n1, n2, uA, uB⟩ := pw_facts (o := dd) (by omega)
  have sub : (order : Int) - (less : Int) = (dd : Int) := by omega
  have ns : n * s = mo := by rw [hn, hs, hmo, hdd, ← Nat.pow_add, Nat.add_comm]
  obtain ⟨A, hA⟩ : ∃ A : Nat, A = a * mo := ⟨_, rfl⟩
  obtain ⟨B, hB⟩ : ∃ B : Nat, B = A + mo := ⟨_, rfl⟩
  have A9 : A ≤ 921600 := by rw [hA]; exact Nat.mul_le_mul a9 mo2
  have hAs : ∀ i, A + i * s = (a * n + i) * 2 ^ less := fun i => by
    rw [hA, ← ns, ← hs, Nat.add_mul, Nat.mul_assoc]
  have hBe : B = (a + 1) * 2 ^ order := by rw [hB, hA, hmo, Nat.succ_mul]
  have HAS : Hid (∀ i, A + i * s = (a * n + i) * 2 ^ less) := hAs
  have HBE : Hid (B = (a + 1) * 2 ^ order) := hBe
  have HBM : Hid (B = A + mo) := hB
  have HSL : Hid (s = 2 ^ less) := hs
  have HMO : Hid (mo = 2 ^ order) := hmo
  have HAO : Hid (A = a * 2 ^ order) := by show A = _; rw [hA, hmo]
  have HNS : Hid (n * s = mo) := ns
  have xA : ∀ q : Nat, q = order → wrap64 ((a : Int) * 2 ^ q) = (A : Int) := by
    rintro q rfl
    have e : (a : Int) * 2 ^ q = (A : Int) := by rw [pow_int, ← hmo, hA, Int.natCast_mul]
    rw [e]
    unfold wrap64
    omega
  have xA2 : ∀ q : Nat, q = order → IntKind.i64.wrap ((a : Int) * 2 ^ q) = (A : Int) := fun q hq => by
    rw [Go.IntWalk.i64_left]; exact xA q hq
  have NC : Hid (Calls Try.prog 10 #[.slice (some ⟨w.heap.size, 0, none⟩) 1 1] (w.alloc (.cells #[.int .i64 (A : Int), .int .i64 ((A : Int) + (mo : Int))] 59)) fun e w' => ∃ b, e = .returned (.tuple #[.pointer (some ⟨b, 0, none⟩), .int .i64 0]) ∧ (Bu (fun j => j < w.heap.size) w' b 930000 (fun x => A + 0 * s ≤ x ∧ x < B) (gI A s less 0) ∧ Below w.heap.size w w')) := by
    have eB : (A : Int) + (mo : Int) = (B : Int) := by omega
    rw [eB]
    refine (new_ok w.heap.size 1 1 (by omega) _ _ (rgs_one w A B) (form_one (f := A) (t := B) (by omega) (by omega))).mono ?_
    rintro e w' ⟨b, he, hB2, hb⟩
    rw [ru_one A B] at hB2
    have sz := World.size_alloc w (.cells #[.int .i64 (A : Int), .int .i64 (B : Int)] 59)
    refine ⟨b, he, ?_, below_then (Go.Joins.below_alloc1 _ _) hb⟩
    rw [gi_zero]
    have e0 : (fun x => A + 0 * s ≤ x ∧ x < B) = (fun i => A ≤ i ∧ i < B) := by simp
    rw [e0]
    exact (hB2.less (fun j hj => by omega)).mono (by show ((B : Int)).toNat ≤ 930000; omega)
  clear hmo hs hn hdd hA hB hAs hBe ns
  obtain ⟨n', hn'⟩ : ∃ n', n' = n := ⟨_, rfl⟩
  have HAS2 : Hid (∀ i, A + i * s = (a * n' + i) * 2 ^ less) := by rw [hn']; exact HAS
  clear HAS hn'
  go_enter Try.func7, Try.ntmps7
  go_wp2_with fail
  refine Calls.mono NC.out ?_
  rintro e w1 ⟨b, rfl, hB0⟩
  have J0 : Hid (Bu (fun j => j < w.heap.size) w1 b (930000 + 20 * 0) (fun x => A + 0 * s ≤ x ∧ x < B) (gI A s less 0) ∧ Below w.heap.size w w1) := hB0
  clear hB0 NC
  go_wp2_with fail
  go_loopw [11, 12, 13] (fun vi _ _ W => ∃ i : Nat, i ≤ n ∧ vi = .int .i64 i ∧ Hid (Bu (fun j => j < w.heap.size) W b (930000 + 20 * i) (fun x => A + i * s ≤ x ∧ x < B) (gI A s less i) ∧ Below w.heap.size w W)) (fun vi _ _ _ => n - (Go.RowKit.intOf vi).toNat)
  case atStart => exact ⟨0, by omega, rfl, J0⟩
  case round =>
    clear J0
    obtain ⟨i, hi, rfl, hJ⟩ := hrel
    by_cases ci : i < n
    · have e1 : decide ((i : Int) < (n : Int)) = true := by simp; omega
      obtain ⟨y, hy⟩ : ∃ y : Nat, y = i * s := ⟨_, rfl⟩
      have ys : y + s ≤ mo := by rw [hy]; exact sum_up (a := 0) HNS.out ci
      have yA : ∀ q : Nat, q = less → wrap64 ((i : Int) * 2 ^ q) = (y : Int) := by
        rintro q rfl
        have e : (i : Int) * 2 ^ q = (y : Int) := by rw [pow_int, ← HSL.out, hy, Int.natCast_mul]
        rw [e]; unfold wrap64; omega
      have TC : Hid (Calls Try.prog 15 #[.pointer (some ⟨b, 0, none⟩), .int .i64 less] wr fun e w' => e = .returned (.tuple #[.int .i64 ((A : Int) + (y : Int)), .int .i64 0]) ∧ (Bu (fun j => j < w.heap.size) w' b (930000 + 20 * (i + 1)) (fun x => A + (i + 1) * s ≤ x ∧ x < B) (gI A s less (i + 1)) ∧ Below w.heap.size w w')) := by
        obtain ⟨hB, hb⟩ := hJ.out
        have hx := HAS2.out i
        have hBE := HBE.out
        have hMO := HMO.out
        have hBM := HBM.out
        refine (hB.take less (by omega) (by omega)).mono ?_
        rintro e w' (⟨_, _, h⟩ | ⟨p, f, q, d, he, T, hB2, kf⟩)
        · exfalso
          have : (fun x => A + i * s ≤ x ∧ x < B) (A + i * s) := ⟨Nat.le_refl _, by rw [← hy]; omega⟩
          obtain ⟨k1, q1, l1, l2, l3, _⟩ := cn_max (fun x => A + i * s ≤ x ∧ x < B) (10 - less) less (a * n' + i) (by omega) (fun z hz => by
            have := (in_blk less (a * n' + i) z).1 hz
            rw [← hx, ← HSL.out, ← hy] at this
            rw [← hy]
            omega)
          exact h k1 q1 l1 l2 l3
        · have pc : p = a * n' + i := low_first (x := A + i * s) (B := B) (order := order) (e := a + 1) hx hBE (by rw [← hy]; omega) (by rw [← hMO, ← hy]; omega) o10 lo T
          subst pc
          rw [← hx] at he hB2
          rw [seg_less HSL.out hx, gi_next] at hB2
          refine ⟨?_, hB2.mono (by omega), hb.trans (kf_below hb.size kf)⟩
          rw [he, ← hy]
          simp
      have OC : Hid (∀ W, (Bu (fun j => j < w.heap.size) W b (930000 + 20 * (i + 1)) (fun x => A + (i + 1) * s ≤ x ∧ x < B) (gI A s less (i + 1)) ∧ Below w.heap.size w W) → Calls Try.prog 23 #[.pointer (some ⟨b, 0, none⟩), .int .i64 ((A : Int) + (y : Int))] W fun e w' => e = .returned (.int .i64 less) ∧ w' = W) := fun W h => by
        have r := h.1.order (x := ((A + i * s : Nat) : Int)) (wf64 (by omega) (by rw [← hy]; omega))
        rw [gi_yes (Nat.lt_succ_self i), ← hy] at r
        have e : ((A + y : Nat) : Int) = (A : Int) + (y : Int) := by omega
        rw [e] at r
        exact r
      clear hy hJ
      go_wp2_with fail
      refine Calls.mono TC.out ?_
      rintro e u ⟨rfl, hJ2⟩
      have J2 : Hid (Bu (fun j => j < w.heap.size) u b (930000 + 20 * (i + 1)) (fun x => A + (i + 1) * s ≤ x ∧ x < B) (gI A s less (i + 1)) ∧ Below w.heap.size w u) := hJ2
      have O2 : Hid _ := OC.out u hJ2
      have ex : ((A : Int) + (y : Int) != (A : Int) + (y : Int)) = false := by simp
      have ex2 : ((less : Int) != (less : Int)) = false := by simp
      clear hJ2 TC OC
      go_wp2_with fail
      refine Calls.mono O2.out ?_
      rintro e u2 ⟨rfl, rfl⟩
      clear O2
      go_wp2_with fail
      go_roundw
      case rel => exact ⟨i + 1, by omega, by go_num, J2⟩
      case measure => simp [Go.RowKit.intOf]; omega
    obtain rfl : i = n := by omega
    have e1 : decide ((i : Int) < (i : Int)) = false := by simp
    have FC : Hid (Calls Try.prog 21 #[.pointer (some ⟨b, 0, none⟩)] wr fun e w' => e = .returned (.int .i64 0) ∧ w' = wr) := by
      have r := hJ.out.1.free
      rw [cnt_empty (fun x hx => by
        have h1 := hx.1
        rw [HNS.out] at h1
        have := hx.2
        have := HBM.out
        omega)] at r
      exact r
    have J1 : Hid (Bu (fun j => j < w.heap.size) wr b (951000 + (i - i)) (fun x => A + i * s ≤ x ∧ x < B) (gI A s less i) ∧ Below w.heap.size w wr) := ⟨hJ.out.1.mono (by omega), hJ.out.2⟩
    clear hJ ci
    go_wp2_with fail
    refine Calls.mono FC.out ?_
    rintro e u ⟨rfl, rfl⟩
    clear FC
    go_wp2_with fail
    go_loopw [14] (fun vi W => ∃ j : Nat, j ≤ i ∧ vi = .int .i64 ((j : Int) - 1) ∧ Hid (Bu (fun j => j < w.heap.size) W b (951000 + (i - j)) (fun x => A + j * s ≤ x ∧ x < B) (gI A s less j) ∧ Below w.heap.size w W)) (fun vi _ => (Go.RowKit.intOf vi + 1).toNat)
    case atStart => exact ⟨i, Nat.le_refl _, rfl, J1⟩
    case round =>
      clear J1
      obtain ⟨j, hj, rfl, hJ⟩ := hrel
      by_cases cj : 0 < j
      · obtain ⟨k, rfl⟩ : ∃ k, j = k + 1 := ⟨j - 1, by omega⟩
        have ek : (((k + 1 : Nat) : Int) - 1) = (k : Int) := by omega
        rw [ek]
        have g1 : decide ((0 : Int) ≤ (k : Int)) = true := by simp
        obtain ⟨y, hy⟩ : ∃ y : Nat, y = k * s := ⟨_, rfl⟩
        have ys : y + s ≤ mo := by rw [hy]; exact sum_up (a := 0) HNS.out (by omega)
        have yA : ∀ q : Nat, q = less → wrap64 ((k : Int) * 2 ^ q) = (y : Int) := by
          rintro q rfl
          have e : (k : Int) * 2 ^ q = (y : Int) := by rw [pow_int, ← HSL.out, hy, Int.natCast_mul]
          rw [e]; unfold wrap64; omega
        have GC : Hid (Calls Try.prog 19 #[.pointer (some ⟨b, 0, none⟩), .int .i64 ((A : Int) + (y : Int))] wr fun e w' => e = .returned (.int .i64 0) ∧ (Bu (fun j => j < w.heap.size) w' b (951000 + (i - k)) (fun x => A + k * s ≤ x ∧ x < B) (gI A s less k) ∧ Below w.heap.size w w')) := by
          obtain ⟨hB, hb⟩ := hJ.out
          have hx := HAS2.out k
          have hBM := HBM.out
          have hSL := HSL.out
          have e0 : (A : Int) + (y : Int) = ((A + k * s : Nat) : Int) := by rw [← hy]; omega
          have bl : ∀ z, z / 2 ^ less = a * n' + k → A + k * s ≤ z ∧ z < A + k * s + s := fun z hz => by
            have := (in_blk less _ z).1 hz
            rw [← hx, ← hSL] at this
            exact this
          rw [e0]
          refine (hB.give less (a * n' + k) (by omega) (by rw [← hx, ← hSL, ← hy]; omega) (fun z hz h => ?_) (by omega) (x := ((A + k * s : Nat) : Int)) (by rw [hx]) (gi_yes (Nat.lt_succ_self k))).mono ?_
          · have h1 := (bl z hz).2
            have h2 := h.1
            rw [Nat.succ_mul] at h2
            omega
          · rintro e w' ⟨he, hB2, kf⟩
            rw [seg_back hSL hx (by rw [Nat.succ_mul, ← hy]; omega), gi_back (by omega)] at hB2
            exact ⟨he, hB2.mono (by omega), hb.trans (kf_below hb.size kf)⟩
        clear hy hJ ek cj
        go_wp2_with fail
        refine Calls.mono GC.out ?_
        rintro e u ⟨rfl, hJ2⟩
        have J2 : Hid (Bu (fun j => j < w.heap.size) u b (951000 + (i - k)) (fun x => A + k * s ≤ x ∧ x < B) (gI A s less k) ∧ Below w.heap.size w u) := hJ2
        clear hJ2 GC
        go_wp2_with fail
        go_roundw
        case rel => exact ⟨k, by omega, by go_num, J2⟩
        case measure => simp [Go.RowKit.intOf]
      obtain rfl : j = 0 := by omega
      rw [show (((0 : Nat) : Int) - 1) = (-1 : Int) from rfl]
      obtain ⟨N2, hN2⟩ : ∃ N2, N2 = 951000 + (i - 0) := ⟨_, rfl⟩
      have K9 : Hid (Bu (fun j => j < w.heap.size) wr b N2 (fun x => A + 0 * s ≤ x ∧ x < B) (gI A s less 0) ∧ Below w.heap.size w wr) := by rw [hN2]; exact hJ.out
      have N9 : N2 ≤ 1048576 := by omega
      have BLC : Hid (∀ W, (Bu (fun j => j < w.heap.size) W b N2 (fun x => A + 0 * s ≤ x ∧ x < B) (gI A s less 0) ∧ Below w.heap.size w W) → Calls Try.prog 27 #[.pointer (some ⟨b, 0, none⟩), .int .i64 order] W fun e w' => ∃ v, e = .returned v ∧ Lst w' v [(A : Int)] ∧ Below W.heap.size W w') := fun W h => by
        refine (h.1.blocks (by omega) order (by omega)).mono ?_
        rintro e w' ⟨v, L, he, hA, hM, hO, hb⟩
        have e0 : (fun x => A + 0 * s ≤ x ∧ x < B) = (fun x => A ≤ x ∧ x < A + 2 ^ order) := by
          rw [HBM.out, ← HMO.out]; simp
        rw [e0] at hM
        have eL : L = [(A : Int)] := asc_eq hA (List.pairwise_singleton _ _) (fun x => by rw [hM, can_whole o10 HAO.out]; simp)
        subst eL
        exact ⟨v, he, lst_row hO, hb⟩
      have FRC : Hid (∀ W, (Bu (fun j => j < w.heap.size) W b N2 (fun x => A + 0 * s ≤ x ∧ x < B) (gI A s less 0) ∧ Below w.heap.size w W) → Calls Try.prog 21 #[.pointer (some ⟨b, 0, none⟩)] W fun e w' => e = .returned (.int .i64 mo) ∧ w' = W) := fun W h => by
        have r := h.1.free
        have hBM := HBM.out
        rw [cnt_seg (A + 0 * s) B (by omega)] at r
        rw [show min B 1048576 - min (A + 0 * s) 1048576 = mo by omega] at r
        exact r
      clear hJ cj hN2
      go_upto_region 21 with fail
      generalize wr = u0 at *
      as_aux_lemma =>
        refine wp_region_noPanic ?_
        refine wp_region_held_drew (S := fun c => True) (by kernel_rfl) trivial (fun hHeld => ?_)
        have IU : Hid (Bu (fun j => j < w.heap.size) u0.drew b N2 (fun x => A + 0 * s ≤ x ∧ x < B) (gI A s less 0) ∧ Below w.heap.size w u0.drew) := ⟨K9.out.1.below (below_drew (Below.refl _ _)), below_drew K9.out.2⟩
        clear K9
        generalize u0.drew = U at IU hHeld ⊢
        refine wpAnyH_ready (rs := [0]) (by kernel_rfl) (by simp) ?_
        refine AllReadyH.cons (o := ⟨some 109, _, _, _, _, none⟩) rfl (fun K hK => ?_) AllReadyH.nil
        go_simp
        go_wp2_with (go_at_call 12; refine Calls.mono (AWH.out U) ?_; rintro e v1 ⟨rfl, hb⟩)
        have I1 : Hid (Bu (fun j => j < w.heap.size) v1 b N2 (fun x => A + 0 * s ≤ x ∧ x < B) (gI A s less 0) ∧ Below w.heap.size w v1) := ⟨IU.out.1.below hb, IU.out.2.trans (hb.mono IU.out.2.size)⟩
        clear hb hHeld IU
        refine hK.out _ _ trivial (fun hHeld => ?_)
        clear hK K
        try simp only [Act.put, List.setIfInBounds_toArray, List.set_cons_zero, List.set_cons_succ]
        refine wpAnyH_take (i := 1) (oi := ⟨some 110, _, _, _, _, none⟩) (v := ?_) rfl (by kernel_rfl) (by kernel_rfl) (by kernel_rfl) (fun _ _ _ h => h) (Or.inl ⟨by rfl, ?_⟩) (by assumption) ?_
        rotate_left
        · intro w hSw; (try dsimp only at hSw); go_simp; (try with_reducible rfl)
        try simp only [Act.put, List.setIfInBounds_toArray, List.set_cons_zero, List.set_cons_succ]
        refine wpAnyH_take (i := 2) (oi := ⟨some 111, _, _, _, _, some (1, true)⟩) (v := ?_) rfl (by kernel_rfl) (by kernel_rfl) (by kernel_rfl) (fun _ _ _ h => h) (Or.inl ⟨by rfl, ?_⟩) (by assumption) ?_
        rotate_left
        · intro w hSw; (try dsimp only at hSw); go_simp; (try with_reducible rfl)
        try simp only [Act.put, List.setIfInBounds_toArray, List.set_cons_zero, List.set_cons_succ]
        refine wpAnyH_take (i := 3) (oi := ⟨some 112, _, _, _, _, some (1, true)⟩) (v := ?_) rfl (by kernel_rfl) (by kernel_rfl) (by kernel_rfl) (fun _ _ _ h => h) (Or.inl ⟨by rfl, ?_⟩) (by assumption) ?_
        rotate_left
        · intro w hSw; (try dsimp only at hSw); go_simp; (try with_reducible rfl)
        try simp only [Act.put, List.setIfInBounds_toArray, List.set_cons_zero, List.set_cons_succ]
        refine wpAnyH_take (i := 5) (oi := ⟨some 114, _, _, _, _, some (1, true)⟩) (v := ?_) rfl (by kernel_rfl) (by kernel_rfl) (by kernel_rfl) (fun _ _ _ h => h) (Or.inl ⟨by rfl, ?_⟩) (by assumption) ?_
        rotate_left
        · intro w hSw; (try dsimp only at hSw); go_simp; (try with_reducible rfl)
        try simp only [Act.put, List.setIfInBounds_toArray, List.set_cons_zero, List.set_cons_succ]
        refine wpAnyH_ready (rs := [4, 6]) (by kernel_rfl) (by simp) ?_
        refine AllReadyH.cons (o := ⟨some 113, _, _, _, _, some (1, true)⟩) rfl (fun K hK => ?_) ?_
        · skip
          go_simp
          go_wp2_with (go_at_call 27; refine Calls.mono (BLC.out _ I1.out) ?_; rintro e v2 ⟨vb, rfl, hL, hb⟩)
          have L1 : Hid (Lst v2 vb [(A : Int)]) := hL
          have I2 : Hid (Bu (fun j => j < w.heap.size) v2 b N2 (fun x => A + 0 * s ≤ x ∧ x < B) (gI A s less 0) ∧ Below w.heap.size w v2) := ⟨I1.out.1.below hb, I1.out.2.trans (hb.mono I1.out.2.size)⟩
          clear hb hHeld I1 hL
          refine hK.out _ _ trivial (fun hHeld => ?_)
          clear hK K
          try simp only [Act.put, List.setIfInBounds_toArray, List.set_cons_zero, List.set_cons_succ]
          refine wpAnyH_ready (rs := [6]) (by kernel_rfl) (by simp) ?_
          refine AllReadyH.cons (o := ⟨some 115, _, _, _, _, some (1, true)⟩) rfl (fun K hK => ?_) AllReadyH.nil
          go_simp
          have NB : Hid (Below v2.heap.size v2 (v2.alloc (.cells #[.int .i64 A] 3))) := Go.Joins.below_alloc1 _ _
          have L2 : Hid (Lst (v2.alloc (.cells #[.int .i64 A] 3)) (.slice (some ⟨v2.heap.size, 0, none⟩) 1 1) [(A : Int)]) := lst_one v2 A
          have I3 : Hid (Bu (fun j => j < w.heap.size) (v2.alloc (.cells #[.int .i64 A] 3)) b N2 (fun x => A + 0 * s ≤ x ∧ x < B) (gI A s less 0) ∧ Below w.heap.size w (v2.alloc (.cells #[.int .i64 A] 3))) := ⟨I2.out.1.below NB.out, I2.out.2.trans (NB.out.mono I2.out.2.size)⟩
          have L3 : Hid (Lst (v2.alloc (.cells #[.int .i64 A] 3)) vb [(A : Int)]) := L1.out.below NB.out
          clear L1
          clear hHeld I2
          refine hK.out _ _ trivial (fun hHeld => ?_)
          clear hK K
          try simp only [Act.put, List.setIfInBounds_toArray, List.set_cons_zero, List.set_cons_succ]
          generalize (v2.alloc (.cells #[.int .i64 A] 3)) = v3 at I3 L2 L3 NB hHeld ⊢
          generalize v2.heap.size = sz at *
          refine wpAnyH_ready (rs := [7]) (by kernel_rfl) (by simp) ?_
          refine AllReadyH.cons (o := ⟨some 116, _, _, _, _, some (1, true)⟩) rfl (fun K hK => ?_) AllReadyH.nil
          go_simp
          go_wp2_with (go_at_call 26; refine Calls.mono (same_yes vb (.slice (some ⟨sz, 0, none⟩) 1 1) [(A : Int)] (by simp) v3 L3.out L2.out) ?_; rintro e x1 ⟨rfl, hb⟩)
          have I5 : Hid (Bu (fun j => j < w.heap.size) x1 b N2 (fun x => A + 0 * s ≤ x ∧ x < B) (gI A s less 0) ∧ Below w.heap.size w x1) := ⟨I3.out.1.below hb, I3.out.2.trans (hb.mono I3.out.2.size)⟩
          clear hb hHeld I3
          refine hK.out _ _ trivial (fun hHeld => ?_)
          clear hK K
          try simp only [Act.put, List.setIfInBounds_toArray, List.set_cons_zero, List.set_cons_succ]
          refine wpAnyH_take (i := 8) (oi := ⟨some 117, _, _, _, _, none⟩) (v := ?_) rfl (by kernel_rfl) (by kernel_rfl) (by kernel_rfl) (fun _ _ _ h => h) (Or.inl ⟨by rfl, ?_⟩) (by assumption) ?_
          rotate_left
          · intro w hSw; (try dsimp only at hSw); go_simp; (try with_reducible rfl)
          try simp only [Act.put, List.setIfInBounds_toArray, List.set_cons_zero, List.set_cons_succ]
          refine wpAnyH_take (i := 9) (oi := ⟨some 118, _, _, _, _, none⟩) (v := ?_) rfl (by kernel_rfl) (by kernel_rfl) (by kernel_rfl) (fun _ _ _ h => h) (Or.inl ⟨by rfl, ?_⟩) (by assumption) ?_
          rotate_left
          · intro w hSw; (try dsimp only at hSw); go_simp; (try with_reducible rfl)
          try simp only [Act.put, List.setIfInBounds_toArray, List.set_cons_zero, List.set_cons_succ]
          refine wpAnyH_take (i := 10) (oi := ⟨some 119, _, _, _, _, some (9, true)⟩) (v := ?_) rfl (by kernel_rfl) (by kernel_rfl) (by kernel_rfl) (fun _ _ _ h => h) (Or.inl ⟨by rfl, ?_⟩) (by assumption) ?_
          rotate_left
          · intro w hSw; (try dsimp only at hSw); go_simp; (try with_reducible rfl)
          try simp only [Act.put, List.setIfInBounds_toArray, List.set_cons_zero, List.set_cons_succ]
          refine wpAnyH_take (i := 12) (oi := ⟨some 121, _, _, _, _, some (9, true)⟩) (v := ?_) rfl (by kernel_rfl) (by kernel_rfl) (by kernel_rfl) (fun _ _ _ h => h) (Or.inl ⟨by rfl, ?_⟩) (by assumption) ?_
          rotate_left
          · intro w hSw; (try dsimp only at hSw); go_simp; (try with_reducible rfl)
          try simp only [Act.put, List.setIfInBounds_toArray, List.set_cons_zero, List.set_cons_succ]
          refine wpAnyH_take (i := 13) (oi := ⟨some 122, _, _, _, _, some (9, true)⟩) (v := .int .i64 (mo : Int)) rfl (by kernel_rfl) (by kernel_rfl) (by kernel_rfl) (fun _ _ _ h => h) (Or.inl ⟨by rfl, ?_⟩) (by assumption) ?_
          · intro w hSw; (try dsimp only at hSw); go_simp; (try simp only [wA order rfl, wB order rfl])
          try simp only [Act.put, List.setIfInBounds_toArray, List.set_cons_zero, List.set_cons_succ]
          refine wpAnyH_ready (rs := [11]) (by kernel_rfl) (by simp) ?_
          refine AllReadyH.cons (o := ⟨some 120, _, _, _, _, some (9, true)⟩) rfl (fun K hK => ?_) AllReadyH.nil
          go_simp
          go_wp2_with (go_at_call 21; refine Calls.mono (FRC.out _ I5.out) ?_; rintro e x2 ⟨rfl, rfl⟩)
          have I6 : Hid (Below w.heap.size w x2) := I5.out.2
          clear hHeld I5
          refine hK.out _ _ trivial (fun hHeld => ?_)
          clear hK K
          try simp only [Act.put, List.setIfInBounds_toArray, List.set_cons_zero, List.set_cons_succ]
          refine wpAnyH_take (i := 14) (oi := ⟨some 123, _, _, _, _, some (9, true)⟩) (v := .bool true) rfl (by kernel_rfl) (by kernel_rfl) (by kernel_rfl) (fun _ _ _ h => h) (Or.inl ⟨by rfl, ?_⟩) (by assumption) ?_
          · intro w hSw; (try dsimp only at hSw); go_simp; (try simp); (try (simp only [IntKind.wrap_i64]; omega))
          try simp only [Act.put, List.setIfInBounds_toArray, List.set_cons_zero, List.set_cons_succ]
          refine wpAnyH_take (i := 15) (oi := ⟨some 124, _, _, _, _, none⟩) (v := ?_) rfl (by kernel_rfl) (by kernel_rfl) (by kernel_rfl) (fun _ _ _ h => h) (Or.inl ⟨by rfl, ?_⟩) (by assumption) ?_
          rotate_left
          · intro w hSw; (try dsimp only at hSw); go_simp; (try with_reducible rfl)
          try simp only [Act.put, List.setIfInBounds_toArray, List.set_cons_zero, List.set_cons_succ]
          refine wpAnyH_take (i := 16) (oi := ⟨some 6, _, _, _, _, none⟩) (v := ?_) rfl (by kernel_rfl) (by kernel_rfl) (by kernel_rfl) (fun _ _ _ h => h) (Or.inl ⟨by rfl, ?_⟩) (by assumption) ?_
          rotate_left
          · intro w hSw; (try dsimp only at hSw); go_simp; (try with_reducible rfl)
          try simp only [Act.put, List.setIfInBounds_toArray, List.set_cons_zero, List.set_cons_succ]
          clear hHeld
          refine wpAnyH_done (by kernel_rfl) ?_ _
          refine NoPanic.normal ?_
          go_wp2_with fail
          go_ret
          exact ⟨rfl, I6.out⟩
        refine AllReadyH.cons (o := ⟨some 115, _, _, _, _, some (1, true)⟩) rfl (fun K hK => ?_) AllReadyH.nil
        go_simp
        have NB : Hid (Below v1.heap.size v1 (v1.alloc (.cells #[.int .i64 A] 3))) := Go.Joins.below_alloc1 _ _
        have L2 : Hid (Lst (v1.alloc (.cells #[.int .i64 A] 3)) (.slice (some ⟨v1.heap.size, 0, none⟩) 1 1) [(A : Int)]) := lst_one v1 A
        have I3 : Hid (Bu (fun j => j < w.heap.size) (v1.alloc (.cells #[.int .i64 A] 3)) b N2 (fun x => A + 0 * s ≤ x ∧ x < B) (gI A s less 0) ∧ Below w.heap.size w (v1.alloc (.cells #[.int .i64 A] 3))) := ⟨I1.out.1.below NB.out, I1.out.2.trans (NB.out.mono I1.out.2.size)⟩
        clear hHeld I1
        refine hK.out _ _ trivial (fun hHeld => ?_)
        clear hK K
        try simp only [Act.put, List.setIfInBounds_toArray, List.set_cons_zero, List.set_cons_succ]
        generalize (v1.alloc (.cells #[.int .i64 A] 3)) = v3 at I3 L2 NB hHeld ⊢
        generalize v1.heap.size = sz at *
        refine wpAnyH_ready (rs := [4]) (by kernel_rfl) (by simp) ?_
        refine AllReadyH.cons (o := ⟨some 113, _, _, _, _, some (1, true)⟩) rfl (fun K hK => ?_) AllReadyH.nil
        go_simp
        go_wp2_with (go_at_call 27; refine Calls.mono (BLC.out _ I3.out) ?_; rintro e v4 ⟨vb, rfl, hL, hb⟩)
        have L1 : Hid (Lst v4 vb [(A : Int)]) := hL
        have I2 : Hid (Bu (fun j => j < w.heap.size) v4 b N2 (fun x => A + 0 * s ≤ x ∧ x < B) (gI A s less 0) ∧ Below w.heap.size w v4) := ⟨I3.out.1.below hb, I3.out.2.trans (hb.mono I3.out.2.size)⟩
        have L4 : Hid (Lst v4 (.slice (some ⟨sz, 0, none⟩) 1 1) [(A : Int)]) := L2.out.below hb
        clear L2
        clear hb hHeld I3 hL
        refine hK.out _ _ trivial (fun hHeld => ?_)
        clear hK K
        try simp only [Act.put, List.setIfInBounds_toArray, List.set_cons_zero, List.set_cons_succ]
        refine wpAnyH_ready (rs := [7]) (by kernel_rfl) (by simp) ?_
        refine AllReadyH.cons (o := ⟨some 116, _, _, _, _, some (1, true)⟩) rfl (fun K hK => ?_) AllReadyH.nil
        go_simp
        go_wp2_with (go_at_call 26; refine Calls.mono (same_yes vb (.slice (some ⟨sz, 0, none⟩) 1 1) [(A : Int)] (by simp) v4 L1.out L4.out) ?_; rintro e x1 ⟨rfl, hb⟩)
        have I5 : Hid (Bu (fun j => j < w.heap.size) x1 b N2 (fun x => A + 0 * s ≤ x ∧ x < B) (gI A s less 0) ∧ Below w.heap.size w x1) := ⟨I2.out.1.below hb, I2.out.2.trans (hb.mono I2.out.2.size)⟩
        clear hb hHeld I2
        refine hK.out _ _ trivial (fun hHeld => ?_)
        clear hK K
        try simp only [Act.put, List.setIfInBounds_toArray, List.set_cons_zero, List.set_cons_succ]
        refine wpAnyH_take (i := 8) (oi := ⟨some 117, _, _, _, _, none⟩) (v := ?_) rfl (by kernel_rfl) (by kernel_rfl) (by kernel_rfl) (fun _ _ _ h => h) (Or.inl ⟨by rfl, ?_⟩) (by assumption) ?_
        rotate_left
        · intro w hSw; (try dsimp only at hSw); go_simp; (try with_reducible rfl)
        try simp only [Act.put, List.setIfInBounds_toArray, List.set_cons_zero, List.set_cons_succ]
        refine wpAnyH_take (i := 9) (oi := ⟨some 118, _, _, _, _, none⟩) (v := ?_) rfl (by kernel_rfl) (by kernel_rfl) (by kernel_rfl) (fun _ _ _ h => h) (Or.inl ⟨by rfl, ?_⟩) (by assumption) ?_
        rotate_left
        · intro w hSw; (try dsimp only at hSw); go_simp; (try with_reducible rfl)
        try simp only [Act.put, List.setIfInBounds_toArray, List.set_cons_zero, List.set_cons_succ]
        refine wpAnyH_take (i := 10) (oi := ⟨some 119, _, _, _, _, some (9, true)⟩) (v := ?_) rfl (by kernel_rfl) (by kernel_rfl) (by kernel_rfl) (fun _ _ _ h => h) (Or.inl ⟨by rfl, ?_⟩) (by assumption) ?_
        rotate_left
        · intro w hSw; (try dsimp only at hSw); go_simp; (try with_reducible rfl)
        try simp only [Act.put, List.setIfInBounds_toArray, List.set_cons_zero, List.set_cons_succ]
        refine wpAnyH_take (i := 12) (oi := ⟨some 121, _, _, _, _, some (9, true)⟩) (v := ?_) rfl (by kernel_rfl) (by kernel_rfl) (by kernel_rfl) (fun _ _ _ h => h) (Or.inl ⟨by rfl, ?_⟩) (by assumption) ?_
        rotate_left
        · intro w hSw; (try dsimp only at hSw); go_simp; (try with_reducible rfl)
        try simp only [Act.put, List.setIfInBounds_toArray, List.set_cons_zero, List.set_cons_succ]
        refine wpAnyH_take (i := 13) (oi := ⟨some 122, _, _, _, _, some (9, true)⟩) (v := .int .i64 (mo : Int)) rfl (by kernel_rfl) (by kernel_rfl) (by kernel_rfl) (fun _ _ _ h => h) (Or.inl ⟨by rfl, ?_⟩) (by assumption) ?_
        · intro w hSw; (try dsimp only at hSw); go_simp; (try simp only [wA order rfl, wB order rfl])
        try simp only [Act.put, List.setIfInBounds_toArray, List.set_cons_zero, List.set_cons_succ]
        refine wpAnyH_ready (rs := [11]) (by kernel_rfl) (by simp) ?_
        refine AllReadyH.cons (o := ⟨some 120, _, _, _, _, some (9, true)⟩) rfl (fun K hK => ?_) AllReadyH.nil
        go_simp
        go_wp2_with (go_at_call 21; refine Calls.mono (FRC.out _ I5.out) ?_; rintro e x2 ⟨rfl, rfl⟩)
        have I6 : Hid (Below w.heap.size w x2) := I5.out.2
        clear hHeld I5
        refine hK.out _ _ trivial (fun hHeld => ?_)
        clear hK K
        try simp only [Act.put, List.setIfInBounds_toArray, List.set_cons_zero, List.set_cons_succ]
        refine wpAnyH_take (i := 14) (oi := ⟨some 123, _, _, _, _, some (9, true)⟩) (v := .bool true) rfl (by kernel_rfl) (by kernel_rfl) (by kernel_rfl) (fun _ _ _ h => h) (Or.inl ⟨by rfl, ?_⟩) (by assumption) ?_
        · intro w hSw; (try dsimp only at hSw); go_simp; (try simp); (try (simp only [IntKind.wrap_i64]; omega))
        try simp only [Act.put, List.setIfInBounds_toArray, List.set_cons_zero, List.set_cons_succ]
        refine wpAnyH_take (i := 15) (oi := ⟨some 124, _, _, _, _, none⟩) (v := ?_) rfl (by kernel_rfl) (by kernel_rfl) (by kernel_rfl) (fun _ _ _ h => h) (Or.inl ⟨by rfl, ?_⟩) (by assumption) ?_
        rotate_left
        · intro w hSw; (try dsimp only at hSw); go_simp; (try with_reducible rfl)
        try simp only [Act.put, List.setIfInBounds_toArray, List.set_cons_zero, List.set_cons_succ]
        refine wpAnyH_take (i := 16) (oi := ⟨some 6, _, _, _, _, none⟩) (v := ?_) rfl (by kernel_rfl) (by kernel_rfl) (by kernel_rfl) (fun _ _ _ h => h) (Or.inl ⟨by rfl, ?_⟩) (by assumption) ?_
        rotate_left
        · intro w hSw; (try dsimp only at hSw); go_simp; (try with_reducible rfl)
        try simp only [Act.put, List.setIfInBounds_toArray, List.set_cons_zero, List.set_cons_succ]
        clear hHeld
        refine wpAnyH_done (by kernel_rfl) ?_ _
        refine NoPanic.normal ?_
        go_wp2_with fail
        go_ret
        exact ⟨rfl, I6.out⟩

theorem own : ownKnob Try.prog.godebug = none := by kernel_rfl
theorem laidOut : laidOutB Try.prog = true := by kernel_rfl
set_option maxRecDepth 100000 in
theorem lifted (os : Os) (started : os.Started) (H : Type) (enc : TypeId × Value → H) :
    ReturnsInHanded {} Try.checked os 7 .any (Rows.buddyHalvesSpec.pre6 enc Try.prog Try.f7 Rows.buddyHalvesRow.domain false) (Rows.buddyHalvesSpec.post enc Try.prog Try.f7 false true false false) := by
  refine returnsInHanded_of_change (C := Try.checked) own started (by kernel_rfl) Try.func7
    (ChangeSpec.witness6 (enc := enc) (C := Try.checked) false ⟨#[], #[.int .i64 0, .int .i64 0, .int .i64 0], []⟩ 8 (by kernel_rfl) (by kernel_rfl) (by kernel_rfl) (by kernel_rfl)) ?_
  intro W base args ds gs before hval0 hW hcnd _
  have hval : ∀ (j : Nat) t v, Try.f7.params[j]? = some t → args[j]? = some v → Value.okWide Try.prog W .any base t v := hval0
  have hW' := hW
  obtain ⟨p, q, hA0, hV, hbef, hfz, hnd⟩ := hW
  have hA : DataW.TrodAll enc Try.prog W 0 (fun _ => true) true Try.f7.params.toList args.toList ds p := hA0
  have hAk := hA
  have hlt : ∀ x ∈ p, x.block < W.heap.size := fun x hx => hW'.lt x (by rw [hbef]; exact List.mem_append_left _ hx)
  rw [Try.params7] at hA hval
  obtain ⟨v0, vs0, d0, ds0, p0, q0, hargs, rfl, hp0, h0, r0⟩ := trodAll_cons hA
  obtain ⟨v1, vs1, d1, ds1, p1, q1, rfl, rfl, hp1, h1, r1⟩ := trodAll_cons r0
  obtain ⟨v2, vs2, d2, ds2, p2, q2, rfl, rfl, hp2, h2, r2⟩ := trodAll_cons r1
  obtain ⟨rfl, rfl, hpz⟩ := trodAll_nil r2
  obtain rfl : args = #[v0, v1, v2] := by cases args; simp_all
  obtain ⟨rfl, rfl⟩ := trodVars_none hV
  obtain ⟨a0, rfl, _, _, w0⟩ := open_int Try.underlying3 (hval 0 3 v0 rfl rfl) h0
  obtain ⟨a1, rfl, _, _, w1⟩ := open_int Try.underlying3 (hval 1 3 v1 rfl rfl) h1
  obtain ⟨a2, rfl, _, _, w2⟩ := open_int Try.underlying3 (hval 2 3 v2 rfl rfl) h2
  clear hA0 hval0
  refine (walk a0 w0 a1 w1 a2 w2 W ).mono fun e W' ⟨he, hg⟩ => ?_
  subst he
  exact ⟨_, rfl, ⟨_, _, _, [], p, [], hW', (trodAll_cons_mk (shut_bool Try.underlying4 _) trodAll_mk0), args_stay laidOut hg (by kernel_rfl) hAk hlt, rfl, hg.frame _, fun h => by cases h⟩⟩

theorem over : Rows.buddyHalvesRow.holds Try.pinned (OpenSpec.ofChange Rows.buddyHalvesSpec) :=
  OpenClaim.holds_of_wide 7 Try.f7 rfl rfl rfl rfl rfl rfl rfl ⟨rfl, rfl, rfl, rfl, rfl⟩ rfl rfl rfl rfl rfl (by kernel_rfl) Try.func7 (by kernel_rfl)
    (of_decide_eq_true (by kernel_rfl)) (by unfold Func.isWrapper; first | (rw [if_pos (by decide +kernel)]; kernel_rfl) | (rw [if_neg (by decide +kernel)]; exact ⟨rfl, rfl⟩))
    (fun os started H enc _ => lifted os started H enc)

theorem proved : Rows.BuddyHalvesSaid :=
  over
#print axioms proved
end Go.Proofs.Ytpjejjonkdhelaa.buddyHalves
