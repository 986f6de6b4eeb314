/- The contract of ram's Zero. -/
import Derived.Test.YtkiclbnbnjbcaabDoorRAwake
namespace Go.Proofs.YtkiclbnbnjbcaabDoor
open Go.ChangeShapes Go.WideShapes Go.ChangeAt Go.RowKit Go.Maps
set_option linter.unusedSimpArgs false
set_option linter.unusedVariables false
set_option maxRecDepth 8000

theorem Mem.drop {w : World} {mb n : Nat} {pg : Int → Option Nat} (h : Mem w mb n pg) {k : Int} (h0 : -9223372036854775808 ≤ k) (h1 : k ≤ 9223372036854775807) (ty : TypeId) :
    ∃ w', (Builtin.delete_ #[97, 3] ty #[.map (some mb), .int .i64 k]).run Tryd.prog w = .ok (.tuple #[]) w' ∧ Mem w' mb n (put pg k none) ∧ w.grownBy w' (some mb) := by
  obtain ⟨D, hown, hD⟩ := h
  obtain ⟨w', hrun, hown', ht⟩ := hown.drop keyLaw Tryd.underlying97 (keyOf_int_mk Tryd.underlying3 (wf64 h0 h1)) ty
  refine ⟨w', hrun, ⟨_, hown', ?_⟩, ht.grown⟩
  intro j
  unfold put
  by_cases c : j = k
  · subst c; rw [if_pos rfl]; exact atKey_del_same _
  · rw [if_neg c, atKey_del_other (by intro e; cases e; exact c rfl)]; exact hD j

/-- a frame's bytes are nought -/
def mzero (M : Int → Int) (k : Int) : Int → Int := fun t => if k * 4096 ≤ t ∧ t < k * 4096 + 4096 then 0 else M t

/-- a memory whose map has lost frame k's page -/
theorem IsRam.dropped {w w' : World} {B rb mb n : Nat} {has : Int → Bool} {F : Int} {M : Int → Int} {S : List Nat} {pg : Int → Option Nat} {k : Int}
    (q1 : B ≤ rb) (q2 : B ≤ mb) (hk : HasOk w rb S has) (q3 : mb ∉ S) (q4 : w.cell? ⟨rb, 0, none⟩ = some (.int .i64 F)) (q5 : w.cell? ⟨rb, 2, none⟩ = some (.map (some mb)))
    (hp : ∀ k b, pg k = some b → B ≤ b ∧ b < w.heap.size ∧ b ∉ S ∧ b ≠ mb ∧ Page w b (fun i => M (k * 4096 + i)))
    (hi : ∀ k k' b, pg k = some b → pg k' = some b → k = k') (hz : ∀ k, pg k = none → ∀ i : Nat, i < 4096 → M (k * 4096 + i) = 0) (hb : ∀ t, 0 ≤ M t ∧ M t < 256)
    (hm' : Mem w' mb n (put pg k none)) (hg : w.grownBy w' (some mb)) : IsRam w' B rb has F (mzero M k) n ∧ Below B w w' := by
  have hrb := hk.2.1 rb hk.1
  have hne : ∀ s, s ∈ S → some s ≠ some mb := fun s hs e => by cases e; exact q3 hs
  have hnerb := hne rb hk.1
  refine ⟨⟨mb, S, put pg k none, q1, q2, hk.keep (fun s hs => hg.block s (hk.2.1 s hs) (hne s hs)) hg.size, q3, ?_, ?_, hm', ?_, ?_, ?_, ?_⟩, below_of_grown hg q2 (by omega)⟩
  · rw [World.cell?_of_block (w := w) (a := ⟨rb, 0, none⟩) (hg.block rb hrb hnerb)]; exact q4
  · rw [World.cell?_of_block (w := w) (a := ⟨rb, 2, none⟩) (hg.block rb hrb hnerb)]; exact q5
  · intro j b hjb
    unfold put at hjb
    by_cases c : j = k
    · rw [if_pos c] at hjb; cases hjb
    · rw [if_neg c] at hjb
      obtain ⟨r1, r2, r3, r4, r5⟩ := hp j b hjb
      refine ⟨r1, Nat.lt_of_lt_of_le r2 hg.size, r3, r4, (r5.of_block (hg.block b r2 (by intro e; cases e; exact r4 rfl))).congr fun i hi' => ?_⟩
      unfold mzero; rw [if_neg (by omega)]
  · intro j j' b hjb hjb'
    unfold put at hjb hjb'
    by_cases c : j = k
    · rw [if_pos c] at hjb; cases hjb
    · by_cases c' : j' = k
      · rw [if_pos c'] at hjb'; cases hjb'
      · rw [if_neg c] at hjb; rw [if_neg c'] at hjb'; exact hi j j' b hjb hjb'
  · intro j hj i hi'
    unfold put at hj
    unfold mzero
    by_cases c : j = k
    · rw [if_pos (by omega)]
    · rw [if_neg c] at hj
      rw [if_neg (by omega)]; exact hz j hj i hi'
  · intro t; unfold mzero; split
    · exact ⟨by omega, by omega⟩
    · exact hb t

set_option maxHeartbeats 400000 in
theorem zero_ok {w : World} {B rb : Nat} {has : Int → Bool} {F : Int} {M : Int → Int} {n : Nat} (h : IsRam w B rb has F M n) (k : Int) (k0 : -9223372036854775808 ≤ k) (k1 : k ≤ 9223372036854775807) (hh : has k = true) :
    Calls Tryd.prog 46 #[.pointer (some ⟨rb, 0, none⟩), .int .i64 k] w fun e w' => e = .returned (.int .i64 0) ∧ IsRam w' B rb has F (mzero M k) n ∧ Below B w w' := by
  obtain ⟨S0, hk0⟩ := h.hasOk
  have hc : Hid (∀ u : Unit, Calls Tryd.prog 60 #[.pointer (some ⟨rb, 0, none⟩), .int .i64 k] w fun e w2 => e = .returned (.bool true) ∧ w.grownBy w2 none) := by
    intro _; rw [← hh]; exact hk0.2.2 w (fun _ _ => rfl) (Nat.le_refl _) k
  have HI : Hid (IsRam w B rb has F M n) := h
  clear h hk0 hh
  go_enter Tryd.func46, Tryd.ntmps46
  go_wp2_with fail
  refine (hc.out ()).mono ?_
  rintro e w1 ⟨rfl, hg1⟩
  obtain ⟨mb, S, pg, q1, q2, hk, q3, q4, q5, hm, hp, hi, hz, hb⟩ := HI.out.grown hg1
  have hd : ∃ w2, (∀ ty, (Builtin.delete_ #[97, 3] ty #[.map (some mb), .int .i64 k]).run Tryd.prog w1 = .ok (.tuple #[]) w2) ∧ IsRam w2 B rb has F (mzero M k) n ∧ Below B w1 w2 := by
    obtain ⟨w2, hr, hm2, hg2⟩ := hm.drop k0 k1 0
    exact ⟨w2, fun ty => hr, IsRam.dropped q1 q2 hk q3 q4 q5 hp hi hz hb hm2 hg2⟩
  obtain ⟨w2, hdel, hI2, hb2⟩ := hd
  have HI2 : Hid (IsRam w2 B rb has F (mzero M k) n ∧ Below B w w2) := ⟨hI2, (below_of_grown0 hg1 HI.out.size).trans hb2⟩
  clear hI2 hb2 hp hi hz hb hm hk q1 q2 q3 q4 hg1
  go_wp2_with fail
  go_ret
  exact ⟨rfl, HI2.out⟩
end Go.Proofs.YtkiclbnbnjbcaabDoor
