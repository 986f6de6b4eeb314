/- The contract of write over a memory's row of bytes. -/
import Derived.Test.YtkiclbnbnjbcaabDoorR6
namespace Go.Proofs.YtkiclbnbnjbcaabDoor
open Go.ChangeShapes Go.WideShapes Go.ChangeAt Go.RowKit Go.Maps
set_option linter.unusedSimpArgs false
set_option linter.unusedVariables false
set_option maxRecDepth 8000

theorem Page.congr {w : World} {b : Nat} {c c' : Nat → Int} (h : Page w b c) (he : ∀ i, i < 4096 → c i = c' i) : Page w b c' := by
  intro i hi; rw [← he i hi]; exact h i hi
theorem Mem.mono {w : World} {mb n n' : Nat} {pg : Int → Option Nat} (h : Mem w mb n pg) (hn : n ≤ n') : Mem w mb n' pg := by
  obtain ⟨D, hown, hD⟩ := h; exact ⟨D, hown.mono hn, hD⟩
theorem below_of_grown {w w' : World} {B b : Nat} (hg : w.grownBy w' (some b)) (hb : B ≤ b) (hB : B ≤ w.heap.size) : Below B w w' :=
  ⟨hg.os, hg.tape, hg.output, hg.size, fun k hk => hg.block k (Nat.lt_of_lt_of_le hk hB) (by intro e; cases e; omega)⟩
theorem below_of_grown0 {w w' : World} {B : Nat} (hg : w.grownBy w' none) (hB : B ≤ w.heap.size) : Below B w w' :=
  ⟨hg.os, hg.tape, hg.output, hg.size, fun k hk => hg.block k (Nat.lt_of_lt_of_le hk hB) (by simp)⟩

theorem mset_in (M : Int → Int) (k x : Int) (a m i : Nat) : mset M (k * 4096 + a) m x (k * 4096 + i) = cset (fun i => M (k * 4096 + i)) a m x i := by
  unfold mset cset
  by_cases c : a ≤ i ∧ i < a + m
  · rw [if_pos c, if_pos (by omega), show (k * 4096 + (i : Int) - (k * 4096 + (a : Int))).toNat = i - a by omega]
  · rw [if_neg c, if_neg (by omega)]
theorem mset_out (M : Int → Int) {k j x : Int} {a m i : Nat} (hj : j ≠ k) (am : a + m ≤ 4096) (hi : i < 4096) : mset M (k * 4096 + a) m x (j * 4096 + i) = M (j * 4096 + i) := by
  unfold mset; rw [if_neg (by omega)]
theorem mset_byte {M : Int → Int} (hb : ∀ t, 0 ≤ M t ∧ M t < 256) (addr m x t : Int) : 0 ≤ mset M addr m x t ∧ mset M addr m x t < 256 := by
  unfold mset; split
  · exact ⟨Int.emod_nonneg _ (by omega), Int.emod_lt_of_pos _ (by omega)⟩
  · exact hb t

theorem write_any {w : World} {B rb : Nat} {has : Int → Bool} {F : Int} {M : Int → Int} {n : Nat} (h : IsRam w B rb has F M n) (hn : n < maxLen) (k a m x : Int) (k0 : -9223372036854775808 ≤ k) (k1 : k ≤ 9223372036854775807)
    (a0 : 0 ≤ a) (m0 : 0 ≤ m) (m8 : m ≤ 8) (am : a + m ≤ 4096) (x0 : 0 ≤ x) (x1 : x < 18446744073709551616) :
    Calls Tryd.prog 64 #[.pointer (some ⟨rb, 0, none⟩), .int .i64 k, .int .i64 a, .int .i64 m, .int .u64 x] w fun e w' => e = .returned (.tuple #[]) ∧
      IsRam w' B rb has F (mset M (k * 4096 + a) m x) (n + 1) ∧ Below B w w' := by
  obtain ⟨mb, S, pg, q1, q2, hk, q3, q4, q5, hm, hp, hi, hz, hb⟩ := h
  have hrb := hk.2.1 rb hk.1
  have ea : k * 4096 + a = k * 4096 + ((a.toNat : Nat) : Int) := by omega
  have em : m = ((m.toNat : Nat) : Int) := by omega
  have hin : ∀ i : Nat, mset M (k * 4096 + a) m x (k * 4096 + i) = cset (fun i => M (k * 4096 + i)) a.toNat m.toNat x i := by
    intro i; rw [ea]; conv => lhs; rw [em]
    exact mset_in M k x a.toNat m.toNat i
  have hout : ∀ (j : Int) (i : Nat), j ≠ k → i < 4096 → mset M (k * 4096 + a) m x (j * 4096 + i) = M (j * 4096 + i) := by
    intro j i hj hi'; rw [ea]; conv => lhs; rw [em]
    exact mset_out M hj (by omega) hi'
  cases hpk : pg k with
  | none =>
    refine (write_none rb mb n pg k a m x w k0 k1 q5 hrb hm hn hpk a0 m0 m8 am x0 x1).mono ?_
    rintro e w' ⟨he, hm', hpage, hg⟩
    have hne : ∀ s, s ∈ S → some s ≠ some mb := fun s hs e => by cases e; exact q3 hs
    have hnerb := hne rb hk.1
    refine ⟨he, ⟨mb, S, put pg k (some w.heap.size), q1, q2, hk.keep (fun s hs => hg.block s (hk.2.1 s hs) (hne s hs)) hg.size, q3, ?_, ?_, hm', ?_, ?_, ?_, mset_byte hb _ _ _⟩, below_of_grown hg q2 (by omega)⟩
    · rw [World.cell?_of_block (w := w) (a := ⟨rb, 0, none⟩) (hg.block rb hrb hnerb)]; exact q4
    · rw [World.cell?_of_block (w := w) (a := ⟨rb, 2, none⟩) (hg.block rb hrb hnerb)]; exact q5
    · intro j b hjb
      unfold put at hjb
      by_cases c : j = k
      · rw [if_pos c] at hjb
        cases hjb
        have hlt := hm'.lt
        refine ⟨by omega, ?_, fun hs => by have := hk.2.1 _ hs; omega, fun e => by have := hm.lt; omega, ?_⟩
        · have hcell := (hpage 0 (by omega)).1
          rcases Nat.lt_or_ge w.heap.size w'.heap.size with d | d
          · exact d
          · exfalso
            have : w'.heap[w.heap.size]? = none := Array.getElem?_eq_none d
            simp [World.cell?, this] at hcell
        · rw [c]
          refine hpage.congr fun i hi' => ?_
          rw [hin]
          unfold cset
          by_cases c2 : a.toNat ≤ i ∧ i < a.toNat + m.toNat
          · rw [if_pos c2, if_pos c2]
          · rw [if_neg c2, if_neg c2]; exact (hz k hpk i hi').symm
      · rw [if_neg c] at hjb
        obtain ⟨r1, r2, r3, r4, r5⟩ := hp j b hjb
        exact ⟨r1, Nat.lt_of_lt_of_le r2 hg.size, r3, r4, (r5.of_block (hg.block b r2 (by intro e; cases e; exact r4 rfl))).congr fun i hi' => (hout j i c hi').symm⟩
    · intro j j' b hjb hjb'
      unfold put at hjb hjb'
      by_cases c : j = k
      · by_cases c' : j' = k
        · rw [c, c']
        · rw [if_pos c] at hjb; rw [if_neg c'] at hjb'
          cases hjb
          have := (hp j' _ hjb').2.1; omega
      · by_cases c' : j' = k
        · rw [if_neg c] at hjb; rw [if_pos c'] at hjb'
          cases hjb'
          have := (hp j _ hjb).2.1; omega
        · rw [if_neg c] at hjb; rw [if_neg c'] at hjb'
          exact hi j j' b hjb hjb'
    · intro j hj i hi'
      unfold put at hj
      by_cases c : j = k
      · rw [if_pos c] at hj; cases hj
      · rw [if_neg c] at hj
        rw [hout j i c hi']; exact hz j hj i hi'
  | some b =>
    obtain ⟨r1, r2, r3, r4, r5⟩ := hp k b hpk
    refine (write_some rb mb n b pg (fun i => M (k * 4096 + i)) k a m x w k0 k1 q5 hm hpk r5 a0 m0 m8 am x0 x1).mono ?_
    rintro e w' ⟨he, hpage, hg⟩
    have hne : ∀ s, s ∈ S → some s ≠ some b := fun s hs e => by cases e; exact r3 hs
    have hnerb := hne rb hk.1
    refine ⟨he, ⟨mb, S, pg, q1, q2, hk.keep (fun s hs => hg.block s (hk.2.1 s hs) (hne s hs)) hg.size, q3, ?_, ?_, (hm.kept hg (by intro e; cases e; exact r4 rfl)).mono (by omega), ?_, hi, ?_, mset_byte hb _ _ _⟩, below_of_grown hg r1 (by omega)⟩
    · rw [World.cell?_of_block (w := w) (a := ⟨rb, 0, none⟩) (hg.block rb hrb hnerb)]; exact q4
    · rw [World.cell?_of_block (w := w) (a := ⟨rb, 2, none⟩) (hg.block rb hrb hnerb)]; exact q5
    · intro j b' hjb
      by_cases c : j = k
      · subst c
        rw [hpk] at hjb; cases hjb
        exact ⟨r1, Nat.lt_of_lt_of_le r2 hg.size, r3, r4, hpage.congr fun i hi' => (hin i).symm⟩
      · obtain ⟨t1, t2, t3, t4, t5⟩ := hp j b' hjb
        have hbb : b' ≠ b := fun e => c (hi j k b' hjb (by rw [e]; exact hpk))
        exact ⟨t1, Nat.lt_of_lt_of_le t2 hg.size, t3, t4, (t5.of_block (hg.block b' t2 (by intro e; cases e; exact hbb rfl))).congr fun i hi' => (hout j i c hi').symm⟩
    · intro j hj i hi'
      have c : j ≠ k := fun e => by rw [e, hpk] at hj; cases hj
      rw [hout j i c hi']; exact hz j hj i hi'
end Go.Proofs.YtkiclbnbnjbcaabDoor
