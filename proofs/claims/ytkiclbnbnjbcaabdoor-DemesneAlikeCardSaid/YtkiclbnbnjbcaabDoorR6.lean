/- A memory as one row of bytes: what its blocks hold; the contracts of check, read and write over it. -/
import Derived.Test.YtkiclbnbnjbcaabDoorR5
namespace Go.Proofs.YtkiclbnbnjbcaabDoor
open Go.ChangeShapes Go.WideShapes Go.ChangeAt Go.RowKit Go.Maps
set_option linter.unusedSimpArgs false
set_option linter.unusedVariables false
set_option maxRecDepth 8000

theorem grown_trans {a b c : World} (h : a.grownBy b none) (k : b.grownBy c none) : a.grownBy c none :=
  ⟨k.os.trans h.os, k.tape.trans h.tape, k.output.trans h.output, Nat.le_trans h.size k.size, fun j hj hne => (k.block j (Nat.lt_of_lt_of_le hj h.size) hne).trans (h.block j hj hne)⟩

/-- Has answers 'has' of the memory in block rb, whatever becomes of blocks outside S -/
def HasOk (w : World) (rb : Nat) (S : List Nat) (has : Int → Bool) : Prop :=
  rb ∈ S ∧ (∀ s, s ∈ S → s < w.heap.size) ∧ ∀ w1 : World, (∀ s, s ∈ S → w1.heap[s]? = w.heap[s]?) → w.heap.size ≤ w1.heap.size → ∀ k : Int,
    Calls Tryd.prog 60 #[.pointer (some ⟨rb, 0, none⟩), .int .i64 k] w1 fun e w2 => e = .returned (.bool (has k)) ∧ w1.grownBy w2 none
theorem HasOk.keep {w w' : World} {rb : Nat} {S : List Nat} {has : Int → Bool} (h : HasOk w rb S has) (hb : ∀ s, s ∈ S → w'.heap[s]? = w.heap[s]?) (hs : w.heap.size ≤ w'.heap.size) : HasOk w' rb S has := by
  obtain ⟨h1, h2, h3⟩ := h
  exact ⟨h1, fun s hs' => Nat.lt_of_lt_of_le (h2 s hs') hs, fun w1 e1 e2 k => h3 w1 (fun s hs' => (e1 s hs').trans (hb s hs')) (Nat.le_trans hs e2) k⟩

/-- a memory's error of an access -/
def chkG (has : Int → Bool) (addr size : Int) : Int :=
  if size = 1 ∨ size = 2 ∨ size = 4 ∨ size = 8 then
    if addr + size ≤ 18446744073709551616 ∧ has (addr / 4096) = true ∧ has ((addr + size - 1) / 4096) = true then 0 else 2
  else 1

set_option maxHeartbeats 400000 in
theorem checkG_1 (rb : Nat) (S : List Nat) (has : Int → Bool) (addr : Int) (w : World) (h0 : 0 ≤ addr) (h1 : addr < 18446744073709551616) (hk : HasOk w rb S has) :
    Calls Tryd.prog 62 #[.pointer (some ⟨rb, 0, none⟩), .int .u64 addr, .int .i64 1] w fun e w' => e = .returned (.int .i64 (chkG has addr 1)) ∧ w.grownBy w' none := by
  have hh : Hid (∀ (k : Int) (w1 : World), w.grownBy w1 none →
    Calls Tryd.prog 60 #[.pointer (some ⟨rb, 0, none⟩), .int .i64 k] w1 fun e w2 => e = .returned (.bool (has k)) ∧ w.grownBy w2 none) := by
    intro k w1 hg
    refine (hk.2.2 w1 (fun s hs => hg.block s (hk.2.1 s hs) (by simp)) hg.size k).mono ?_
    rintro e w2 ⟨he, hg2⟩
    exact ⟨he, grown_trans hg hg2⟩
  clear hk
  have sz : (1 : Int) = 1 ∨ (1 : Int) = 2 ∨ (1 : Int) = 4 ∨ (1 : Int) = 8 := by omega
  by_cases o : addr + 1 ≤ 18446744073709551616
  · have el : addr + 1 - 1 = addr := by omega
    have hle : addr < 18446744073709551616 := by omega
    have hnl : ¬ addr < addr := by omega
    cases g1 : has (addr / 4096)
    · have HC : Hid (chkG has addr 1 = 2) := by show chkG has addr 1 = 2; unfold chkG; rw [if_pos sz, if_neg (by rw [g1]; simp)]
      clear el sz
      go_enter Tryd.func62, Tryd.ntmps62
      go_wp2_with fail
      refine (hh.out _ _ (World.grownBy.refl _ _)).mono ?_
      rintro e w1 ⟨rfl, hg1⟩
      go_wp2_with fail
      go_ret
      exact ⟨by rw [HC.out]; rfl, hg1⟩
    · cases g2 : has ((addr) / 4096)
      · have HC : Hid (chkG has addr 1 = 2) := by show chkG has addr 1 = 2; unfold chkG; rw [if_pos sz, el, if_neg (by rw [g2]; simp)]
        clear el sz
        rw [g1] at g2; cases g2
      · have HC : Hid (chkG has addr 1 = 0) := by show chkG has addr 1 = 0; unfold chkG; rw [if_pos sz, el, if_pos ⟨o, g1, g2⟩]
        clear el sz
        go_enter Tryd.func62, Tryd.ntmps62
        go_wp2_with fail
        refine (hh.out _ _ (World.grownBy.refl _ _)).mono ?_
        rintro e w1 ⟨rfl, hg1⟩
        go_wp2_with fail
        refine (hh.out _ _ hg1).mono ?_
        rintro e w2 ⟨rfl, hg2⟩
        go_wp2_with fail
        go_ret
        exact ⟨by rw [HC.out]; rfl, hg2⟩
  · omega

set_option maxHeartbeats 400000 in
theorem checkG_2 (rb : Nat) (S : List Nat) (has : Int → Bool) (addr : Int) (w : World) (h0 : 0 ≤ addr) (h1 : addr < 18446744073709551616) (hk : HasOk w rb S has) :
    Calls Tryd.prog 62 #[.pointer (some ⟨rb, 0, none⟩), .int .u64 addr, .int .i64 2] w fun e w' => e = .returned (.int .i64 (chkG has addr 2)) ∧ w.grownBy w' none := by
  have hh : Hid (∀ (k : Int) (w1 : World), w.grownBy w1 none →
    Calls Tryd.prog 60 #[.pointer (some ⟨rb, 0, none⟩), .int .i64 k] w1 fun e w2 => e = .returned (.bool (has k)) ∧ w.grownBy w2 none) := by
    intro k w1 hg
    refine (hk.2.2 w1 (fun s hs => hg.block s (hk.2.1 s hs) (by simp)) hg.size k).mono ?_
    rintro e w2 ⟨he, hg2⟩
    exact ⟨he, grown_trans hg hg2⟩
  clear hk
  have sz : (2 : Int) = 1 ∨ (2 : Int) = 2 ∨ (2 : Int) = 4 ∨ (2 : Int) = 8 := by omega
  by_cases o : addr + 2 ≤ 18446744073709551616
  · have el : addr + 2 - 1 = addr + 1 := by omega
    have hle : addr + 1 < 18446744073709551616 := by omega
    have hnl : ¬ addr + 1 < addr := by omega
    cases g1 : has (addr / 4096)
    · have HC : Hid (chkG has addr 2 = 2) := by show chkG has addr 2 = 2; unfold chkG; rw [if_pos sz, if_neg (by rw [g1]; simp)]
      clear el sz
      go_enter Tryd.func62, Tryd.ntmps62
      go_wp2_with fail
      refine (hh.out _ _ (World.grownBy.refl _ _)).mono ?_
      rintro e w1 ⟨rfl, hg1⟩
      go_wp2_with fail
      go_ret
      exact ⟨by rw [HC.out]; rfl, hg1⟩
    · cases g2 : has ((addr + 1) / 4096)
      · have HC : Hid (chkG has addr 2 = 2) := by show chkG has addr 2 = 2; unfold chkG; rw [if_pos sz, el, if_neg (by rw [g2]; simp)]
        clear el sz
        go_enter Tryd.func62, Tryd.ntmps62
        go_wp2_with fail
        refine (hh.out _ _ (World.grownBy.refl _ _)).mono ?_
        rintro e w1 ⟨rfl, hg1⟩
        go_wp2_with fail
        refine (hh.out _ _ hg1).mono ?_
        rintro e w2 ⟨rfl, hg2⟩
        go_wp2_with fail
        go_ret
        exact ⟨by rw [HC.out]; rfl, hg2⟩
      · have HC : Hid (chkG has addr 2 = 0) := by show chkG has addr 2 = 0; unfold chkG; rw [if_pos sz, el, if_pos ⟨o, g1, g2⟩]
        clear el sz
        go_enter Tryd.func62, Tryd.ntmps62
        go_wp2_with fail
        refine (hh.out _ _ (World.grownBy.refl _ _)).mono ?_
        rintro e w1 ⟨rfl, hg1⟩
        go_wp2_with fail
        refine (hh.out _ _ hg1).mono ?_
        rintro e w2 ⟨rfl, hg2⟩
        go_wp2_with fail
        go_ret
        exact ⟨by rw [HC.out]; rfl, hg2⟩
  · have HC : Hid (chkG has addr 2 = 2) := by show chkG has addr 2 = 2; unfold chkG; rw [if_pos sz, if_neg (fun k => o k.1)]
    have hw : IntKind.u64.wrap (addr + 1) = addr + 1 - 18446744073709551616 := by rw [IntKind.wrap_u64]; omega
    have hl : addr + 1 - 18446744073709551616 < addr := by omega
    clear o sz
    go_enter Tryd.func62, Tryd.ntmps62
    go_wp2_with fail
    go_ret
    exact ⟨by rw [HC.out]; rfl, (World.grownBy.refl _ _)⟩

set_option maxHeartbeats 400000 in
theorem checkG_4 (rb : Nat) (S : List Nat) (has : Int → Bool) (addr : Int) (w : World) (h0 : 0 ≤ addr) (h1 : addr < 18446744073709551616) (hk : HasOk w rb S has) :
    Calls Tryd.prog 62 #[.pointer (some ⟨rb, 0, none⟩), .int .u64 addr, .int .i64 4] w fun e w' => e = .returned (.int .i64 (chkG has addr 4)) ∧ w.grownBy w' none := by
  have hh : Hid (∀ (k : Int) (w1 : World), w.grownBy w1 none →
    Calls Tryd.prog 60 #[.pointer (some ⟨rb, 0, none⟩), .int .i64 k] w1 fun e w2 => e = .returned (.bool (has k)) ∧ w.grownBy w2 none) := by
    intro k w1 hg
    refine (hk.2.2 w1 (fun s hs => hg.block s (hk.2.1 s hs) (by simp)) hg.size k).mono ?_
    rintro e w2 ⟨he, hg2⟩
    exact ⟨he, grown_trans hg hg2⟩
  clear hk
  have sz : (4 : Int) = 1 ∨ (4 : Int) = 2 ∨ (4 : Int) = 4 ∨ (4 : Int) = 8 := by omega
  by_cases o : addr + 4 ≤ 18446744073709551616
  · have el : addr + 4 - 1 = addr + 3 := by omega
    have hle : addr + 3 < 18446744073709551616 := by omega
    have hnl : ¬ addr + 3 < addr := by omega
    cases g1 : has (addr / 4096)
    · have HC : Hid (chkG has addr 4 = 2) := by show chkG has addr 4 = 2; unfold chkG; rw [if_pos sz, if_neg (by rw [g1]; simp)]
      clear el sz
      go_enter Tryd.func62, Tryd.ntmps62
      go_wp2_with fail
      refine (hh.out _ _ (World.grownBy.refl _ _)).mono ?_
      rintro e w1 ⟨rfl, hg1⟩
      go_wp2_with fail
      go_ret
      exact ⟨by rw [HC.out]; rfl, hg1⟩
    · cases g2 : has ((addr + 3) / 4096)
      · have HC : Hid (chkG has addr 4 = 2) := by show chkG has addr 4 = 2; unfold chkG; rw [if_pos sz, el, if_neg (by rw [g2]; simp)]
        clear el sz
        go_enter Tryd.func62, Tryd.ntmps62
        go_wp2_with fail
        refine (hh.out _ _ (World.grownBy.refl _ _)).mono ?_
        rintro e w1 ⟨rfl, hg1⟩
        go_wp2_with fail
        refine (hh.out _ _ hg1).mono ?_
        rintro e w2 ⟨rfl, hg2⟩
        go_wp2_with fail
        go_ret
        exact ⟨by rw [HC.out]; rfl, hg2⟩
      · have HC : Hid (chkG has addr 4 = 0) := by show chkG has addr 4 = 0; unfold chkG; rw [if_pos sz, el, if_pos ⟨o, g1, g2⟩]
        clear el sz
        go_enter Tryd.func62, Tryd.ntmps62
        go_wp2_with fail
        refine (hh.out _ _ (World.grownBy.refl _ _)).mono ?_
        rintro e w1 ⟨rfl, hg1⟩
        go_wp2_with fail
        refine (hh.out _ _ hg1).mono ?_
        rintro e w2 ⟨rfl, hg2⟩
        go_wp2_with fail
        go_ret
        exact ⟨by rw [HC.out]; rfl, hg2⟩
  · have HC : Hid (chkG has addr 4 = 2) := by show chkG has addr 4 = 2; unfold chkG; rw [if_pos sz, if_neg (fun k => o k.1)]
    have hw : IntKind.u64.wrap (addr + 3) = addr + 3 - 18446744073709551616 := by rw [IntKind.wrap_u64]; omega
    have hl : addr + 3 - 18446744073709551616 < addr := by omega
    clear o sz
    go_enter Tryd.func62, Tryd.ntmps62
    go_wp2_with fail
    go_ret
    exact ⟨by rw [HC.out]; rfl, (World.grownBy.refl _ _)⟩

set_option maxHeartbeats 400000 in
theorem checkG_8 (rb : Nat) (S : List Nat) (has : Int → Bool) (addr : Int) (w : World) (h0 : 0 ≤ addr) (h1 : addr < 18446744073709551616) (hk : HasOk w rb S has) :
    Calls Tryd.prog 62 #[.pointer (some ⟨rb, 0, none⟩), .int .u64 addr, .int .i64 8] w fun e w' => e = .returned (.int .i64 (chkG has addr 8)) ∧ w.grownBy w' none := by
  have hh : Hid (∀ (k : Int) (w1 : World), w.grownBy w1 none →
    Calls Tryd.prog 60 #[.pointer (some ⟨rb, 0, none⟩), .int .i64 k] w1 fun e w2 => e = .returned (.bool (has k)) ∧ w.grownBy w2 none) := by
    intro k w1 hg
    refine (hk.2.2 w1 (fun s hs => hg.block s (hk.2.1 s hs) (by simp)) hg.size k).mono ?_
    rintro e w2 ⟨he, hg2⟩
    exact ⟨he, grown_trans hg hg2⟩
  clear hk
  have sz : (8 : Int) = 1 ∨ (8 : Int) = 2 ∨ (8 : Int) = 4 ∨ (8 : Int) = 8 := by omega
  by_cases o : addr + 8 ≤ 18446744073709551616
  · have el : addr + 8 - 1 = addr + 7 := by omega
    have hle : addr + 7 < 18446744073709551616 := by omega
    have hnl : ¬ addr + 7 < addr := by omega
    cases g1 : has (addr / 4096)
    · have HC : Hid (chkG has addr 8 = 2) := by show chkG has addr 8 = 2; unfold chkG; rw [if_pos sz, if_neg (by rw [g1]; simp)]
      clear el sz
      go_enter Tryd.func62, Tryd.ntmps62
      go_wp2_with fail
      refine (hh.out _ _ (World.grownBy.refl _ _)).mono ?_
      rintro e w1 ⟨rfl, hg1⟩
      go_wp2_with fail
      go_ret
      exact ⟨by rw [HC.out]; rfl, hg1⟩
    · cases g2 : has ((addr + 7) / 4096)
      · have HC : Hid (chkG has addr 8 = 2) := by show chkG has addr 8 = 2; unfold chkG; rw [if_pos sz, el, if_neg (by rw [g2]; simp)]
        clear el sz
        go_enter Tryd.func62, Tryd.ntmps62
        go_wp2_with fail
        refine (hh.out _ _ (World.grownBy.refl _ _)).mono ?_
        rintro e w1 ⟨rfl, hg1⟩
        go_wp2_with fail
        refine (hh.out _ _ hg1).mono ?_
        rintro e w2 ⟨rfl, hg2⟩
        go_wp2_with fail
        go_ret
        exact ⟨by rw [HC.out]; rfl, hg2⟩
      · have HC : Hid (chkG has addr 8 = 0) := by show chkG has addr 8 = 0; unfold chkG; rw [if_pos sz, el, if_pos ⟨o, g1, g2⟩]
        clear el sz
        go_enter Tryd.func62, Tryd.ntmps62
        go_wp2_with fail
        refine (hh.out _ _ (World.grownBy.refl _ _)).mono ?_
        rintro e w1 ⟨rfl, hg1⟩
        go_wp2_with fail
        refine (hh.out _ _ hg1).mono ?_
        rintro e w2 ⟨rfl, hg2⟩
        go_wp2_with fail
        go_ret
        exact ⟨by rw [HC.out]; rfl, hg2⟩
  · have HC : Hid (chkG has addr 8 = 2) := by show chkG has addr 8 = 2; unfold chkG; rw [if_pos sz, if_neg (fun k => o k.1)]
    have hw : IntKind.u64.wrap (addr + 7) = addr + 7 - 18446744073709551616 := by rw [IntKind.wrap_u64]; omega
    have hl : addr + 7 - 18446744073709551616 < addr := by omega
    clear o sz
    go_enter Tryd.func62, Tryd.ntmps62
    go_wp2_with fail
    go_ret
    exact ⟨by rw [HC.out]; rfl, (World.grownBy.refl _ _)⟩

set_option maxHeartbeats 400000 in
theorem checkG_arg (rb : Nat) (has : Int → Bool) (addr size : Int) (w : World) (hs : ¬ (size = 1 ∨ size = 2 ∨ size = 4 ∨ size = 8)) :
    Calls Tryd.prog 62 #[.pointer (some ⟨rb, 0, none⟩), .int .u64 addr, .int .i64 size] w fun e w' => e = .returned (.int .i64 (chkG has addr size)) ∧ w.grownBy w' none := by
  have HC : Hid (chkG has addr size = 1) := by show chkG has addr size = 1; unfold chkG; rw [if_neg hs]
  have b1 : (size == 1) = false := beq_eq_false_iff_ne.2 (by omega)
  have b2 : (size == 2) = false := beq_eq_false_iff_ne.2 (by omega)
  have b4 : (size == 4) = false := beq_eq_false_iff_ne.2 (by omega)
  have b8 : (size == 8) = false := beq_eq_false_iff_ne.2 (by omega)
  clear hs
  go_enter Tryd.func62, Tryd.ntmps62
  go_wp2
  go_ret
  exact ⟨by rw [HC.out]; rfl, World.grownBy.refl _ _⟩
theorem check_any (rb : Nat) (S : List Nat) (has : Int → Bool) (addr size : Int) (w : World) (h0 : 0 ≤ addr) (h1 : addr < 18446744073709551616) (hk : HasOk w rb S has) :
    Calls Tryd.prog 62 #[.pointer (some ⟨rb, 0, none⟩), .int .u64 addr, .int .i64 size] w fun e w' => e = .returned (.int .i64 (chkG has addr size)) ∧ w.grownBy w' none := by
  by_cases hs : size = 1 ∨ size = 2 ∨ size = 4 ∨ size = 8
  · rcases hs with rfl | rfl | rfl | rfl
    · exact checkG_1 rb S has addr w h0 h1 hk
    · exact checkG_2 rb S has addr w h0 h1 hk
    · exact checkG_4 rb S has addr w h0 h1 hk
    · exact checkG_8 rb S has addr w h0 h1 hk
  · exact checkG_arg rb has addr size w hs

/-! ### one row of bytes -/
def mset (M : Int → Int) (addr m x : Int) : Int → Int := fun t => if addr ≤ t ∧ t < addr + m then x / 256 ^ (t - addr).toNat % 256 else M t
def ld (M : Int → Int) (addr : Int) : Nat → Int
  | 0 => 0
  | i + 1 => ld M addr i + M (addr + i) * 256 ^ i

/-- the memory in block rb, all of whose own blocks lie from B on, holds the bytes M; its map has at most n entries -/
def IsRam (w : World) (B rb : Nat) (has : Int → Bool) (F : Int) (M : Int → Int) (n : Nat) : Prop :=
  ∃ (mb : Nat) (S : List Nat) (pg : Int → Option Nat), B ≤ rb ∧ B ≤ mb ∧ HasOk w rb S has ∧ mb ∉ S ∧
    w.cell? ⟨rb, 0, none⟩ = some (.int .i64 F) ∧ w.cell? ⟨rb, 2, none⟩ = some (.map (some mb)) ∧ Mem w mb n pg ∧
    (∀ k b, pg k = some b → B ≤ b ∧ b < w.heap.size ∧ b ∉ S ∧ b ≠ mb ∧ Page w b (fun i => M (k * 4096 + i))) ∧
    (∀ k k' b, pg k = some b → pg k' = some b → k = k') ∧ (∀ k, pg k = none → ∀ i : Nat, i < 4096 → M (k * 4096 + i) = 0) ∧ ∀ t, 0 ≤ M t ∧ M t < 256

theorem Page.of_block {w w' : World} {b : Nat} {c : Nat → Int} (h : Page w b c) (hb : w'.heap[b]? = w.heap[b]?) : Page w' b c := by
  intro i hi
  obtain ⟨h1, h2⟩ := h i hi
  exact ⟨(World.cell?_of_block (a := ⟨b, i, none⟩) hb).trans h1, (World.frozen?_of_block (a := ⟨b, i, none⟩) hb).trans h2⟩

/-- what only makes new blocks leaves a memory as it is -/
theorem IsRam.grown {w w' : World} {B rb : Nat} {has : Int → Bool} {F : Int} {M : Int → Int} {n : Nat} (h : IsRam w B rb has F M n) (hg : w.grownBy w' none) : IsRam w' B rb has F M n := by
  obtain ⟨mb, S, pg, q1, q2, hk, q3, q4, q5, hm, hp, hi, hz, hb⟩ := h
  have hrb := hk.2.1 rb hk.1
  refine ⟨mb, S, pg, q1, q2, hk.keep (fun s hs => hg.block s (hk.2.1 s hs) (by simp)) hg.size, q3, ?_, ?_, hm.kept hg (by simp), ?_, hi, hz, hb⟩
  · rw [World.cell?_of_block (w := w) (a := ⟨rb, 0, none⟩) (hg.block rb hrb (by simp))]; exact q4
  · rw [World.cell?_of_block (w := w) (a := ⟨rb, 2, none⟩) (hg.block rb hrb (by simp))]; exact q5
  · intro k b hkb
    obtain ⟨r1, r2, r3, r4, r5⟩ := hp k b hkb
    exact ⟨r1, Nat.lt_of_lt_of_le r2 hg.size, r3, r4, r5.of_block (hg.block b r2 (by simp))⟩

theorem ld_le (M : Int → Int) (k : Int) (a : Nat) : ∀ m, le (fun i => M (k * 4096 + i)) a m = ld M (k * 4096 + a) m
  | 0 => rfl
  | m + 1 => by
    simp only [le, ld, ld_le M k a m]
    rw [show (k * 4096 + ((a + m : Nat) : Int)) = k * 4096 + a + m by omega]
theorem ld_zero {M : Int → Int} {addr : Int} : ∀ {m : Nat}, (∀ i : Nat, i < m → M (addr + i) = 0) → ld M addr m = 0
  | 0, _ => rfl
  | m + 1, h => by
    simp only [ld]
    rw [ld_zero (fun i hi => h i (by omega)), h m (by omega)]; simp

theorem read_any {w : World} {B rb : Nat} {has : Int → Bool} {F : Int} {M : Int → Int} {n : Nat} (h : IsRam w B rb has F M n) (k a m : Int) (k0 : -9223372036854775808 ≤ k) (k1 : k ≤ 9223372036854775807)
    (a0 : 0 ≤ a) (m0 : 0 ≤ m) (m8 : m ≤ 8) (am : a + m ≤ 4096) :
    Calls Tryd.prog 74 #[.pointer (some ⟨rb, 0, none⟩), .int .i64 k, .int .i64 a, .int .i64 m] w fun e w' => e = .returned (.int .u64 (ld M (k * 4096 + a) m.toNat)) ∧ w' = w := by
  obtain ⟨mb, S, pg, q1, q2, hk, q3, q4, q5, hm, hp, hi, hz, hb⟩ := h
  cases hpk : pg k with
  | none =>
    refine (read_none rb mb n pg k a m w k0 k1 q5 hm hpk).mono ?_
    rintro e w' ⟨he, hw⟩
    refine ⟨?_, hw⟩
    rw [he, ld_zero]
    intro i hi'
    have := hz k hpk (a.toNat + i) (by omega)
    rw [show k * 4096 + a + (i : Int) = k * 4096 + ((a.toNat + i : Nat) : Int) by omega]; exact this
  | some b =>
    obtain ⟨r1, r2, r3, r4, r5⟩ := hp k b hpk
    refine (read_some rb mb n b pg (fun i => M (k * 4096 + i)) k a m w k0 k1 q5 hm hpk (fun i => hb _) (fun i hi' => (r5 i hi').1) a0 m0 m8 am).mono ?_
    rintro e w' ⟨he, hw⟩
    refine ⟨?_, hw⟩
    rw [he, ld_le, show k * 4096 + ((a.toNat : Nat) : Int) = k * 4096 + a by omega]
end Go.Proofs.YtkiclbnbnjbcaabDoor
