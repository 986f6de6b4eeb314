/- ram.New without holes gives a memory of zeros; what is stored is loaded again. -/
import Derived.Test.YtkiclbnbnjbcaabDoorR9
namespace Go.Proofs.YtkiclbnbnjbcaabDoor
open Go.ChangeShapes Go.WideShapes Go.ChangeAt Go.RowKit Go.Maps
set_option linter.unusedSimpArgs false
set_option linter.unusedVariables false
set_option maxRecDepth 8000

theorem new_nil (F : Int) (f0 : 1 ≤ F) (f1 : F ≤ 1048576) (w : World) :
    Calls Tryd.prog 18 #[.int .i64 F, .slice none 0 0] w fun e w' => e = .returned (.tuple #[.pointer (some ⟨w.heap.size + 1, 0, none⟩), .int .i64 0]) ∧
      IsRam w' w.heap.size (w.heap.size + 1) (hasF F) F (fun _ => 0) 0 ∧ Below w.heap.size w w' := by
  refine (new_walk F f0 f1 w).mono ?_
  rintro e w' ⟨he, hw⟩
  refine ⟨he, ?_, ?_⟩
  · subst hw
    have hsz : (w.alloc (.map #[] 0)).heap.size = w.heap.size + 1 := World.size_alloc ..
    have hg : (w.alloc (.map #[] 0)).grownBy ((w.alloc (.map #[] 0)).alloc (.cells #[.int .i64 F, .slice none 0 0, .map (some w.heap.size)] 99)) none := World.grownBy_alloc _ _ none
    have hc : ∀ i, ((w.alloc (.map #[] 0)).alloc (.cells #[.int .i64 F, .slice none 0 0, .map (some w.heap.size)] 99)).cell? ⟨w.heap.size + 1, i, none⟩ = #[Value.int .i64 F, .slice none 0 0, .map (some w.heap.size)][i]? :=
      fun i => World.cell?_alloc_at _ _ _ _ hsz.symm
    refine ⟨w.heap.size, [w.heap.size + 1], fun _ => none, by omega, by omega, ⟨by simp, ?_, ?_⟩, by simp, hc 0, hc 2, (Mem.made w).kept hg (by simp), ?_, ?_, ?_, ?_⟩
    · intro s hs
      simp at hs
      subst hs
      rw [World.size_alloc, hsz]; omega
    · intro w1 e1 _ k
      have hb := e1 (w.heap.size + 1) (by simp)
      refine (has_nil (w.heap.size + 1) F k w1 ?_ ?_).mono ?_
      · rw [World.cell?_of_block (a := ⟨w.heap.size + 1, 0, none⟩) hb]; exact hc 0
      · rw [World.cell?_of_block (a := ⟨w.heap.size + 1, 1, none⟩) hb]; exact hc 1
      · rintro e w2 ⟨he2, hw2⟩
        exact ⟨he2, by rw [hw2]; exact World.grownBy.refl _ _⟩
    · intro k b h; cases h
    · intro k k' b h; cases h
    · intro k _ i _; rfl
    · intro t; exact ⟨by simp, by simp⟩
  · rw [hw]
    exact ((Below.refl _ _).alloc (Nat.le_refl _) _).alloc (by rw [World.size_alloc]; omega) _

theorem grown_drewN0 (w : World) (m : Nat) : w.grownBy (w.drewN m) none := ⟨rfl, rfl, rfl, Nat.le_refl _, fun _ _ _ => rfl⟩
theorem below_drewN (B : Nat) (w : World) (m : Nat) : Below B w (w.drewN m) := ⟨rfl, rfl, rfl, Nat.le_refl _, fun _ _ => rfl⟩

/-! ### what is stored is loaded again -/
theorem mod_step (x : Int) (hx : 0 ≤ x) (i : Nat) : x % 256 ^ i + x / 256 ^ i % 256 * 256 ^ i = x % 256 ^ (i + 1) := by
  obtain ⟨X, rfl⟩ := Int.eq_ofNat_of_zero_le hx
  have h := Nat.mod_mul (x := X) (a := 256 ^ i) (b := 256)
  have e : ∀ n : Nat, ((256 : Int) ^ n) = ((256 ^ n : Nat) : Int) := fun n => by rw [Int.natCast_pow]; rfl
  rw [Int.pow_succ, e, ← Int.natCast_emod, ← Int.natCast_ediv]
  rw [show (256 : Int) = ((256 : Nat) : Int) from rfl, ← Int.natCast_emod, ← Int.natCast_mul, ← Int.natCast_mul, ← Int.natCast_add, ← Int.natCast_emod, h, Nat.mul_comm]
theorem ld_mset_low (M : Int → Int) (a m x : Int) (hx : 0 ≤ x) : ∀ i : Nat, (i : Int) ≤ m → ld (mset M a m x) a i = x % 256 ^ i
  | 0, _ => by simp [ld]
  | i + 1, h => by
    simp only [ld]
    rw [ld_mset_low M a m x hx i (by omega)]
    have : mset M a m x (a + i) = x / 256 ^ i % 256 := by unfold mset; rw [if_pos (by omega), show (a + (i : Int) - a).toNat = i by omega]
    rw [this, mod_step x hx i]
theorem ld_mset8 (M : Int → Int) (a x : Int) (h0 : 0 ≤ x) (h1 : x < 18446744073709551616) : ld (mset M a 8 x) a (8 : Int).toNat = x := by
  rw [show (8 : Int).toNat = 8 from rfl, ld_mset_low M a 8 x h0 8 (by omega)]
  exact Int.emod_eq_of_lt h0 (by have : (256 : Int) ^ 8 = 18446744073709551616 := by decide
                                 omega)
theorem ld_mset_apart (M : Int → Int) {a m x b : Int} : ∀ {n : Nat}, (b + n ≤ a ∨ a + m ≤ b) → ld (mset M a m x) b n = ld M b n
  | 0, _ => rfl
  | n + 1, h => by
    simp only [ld]
    rw [ld_mset_apart M (n := n) (by omega)]
    have : mset M a m x (b + n) = M (b + n) := by unfold mset; rw [if_neg (by omega)]
    rw [this]

/-! ### Store and Load at known places, for a law -/
theorem st_at {B rb : Nat} {has : Int → Bool} {F : Int} (M : Int → Int) (n : Nat) (addr size x : Int) (hn : n + 1 < maxLen) (h0 : 0 ≤ addr) (h1 : addr < 18446744073709551616) (hz : chkG has addr size = 0) (x0 : 0 ≤ x) (x1 : x < 18446744073709551616) :
    Hid (∀ w : World, IsRam w B rb has F M n → Calls Tryd.prog 48 #[.pointer (some ⟨rb, 0, none⟩), .int .u64 addr, .int .i64 size, .int .u64 x] w fun e w' => e = .returned (.int .i64 0) ∧ IsRam w' B rb has F (mset M addr size x) (n + 2) ∧ Below B w w') :=
  fun w h => store_ok h hn addr size x h0 h1 hz x0 x1
theorem ld_at {B rb : Nat} {has : Int → Bool} {F : Int} (M : Int → Int) (n : Nat) (addr size v : Int) (h0 : 0 ≤ addr) (h1 : addr < 18446744073709551616) (hz : chkG has addr size = 0) (hv : ld M addr size.toNat = v) :
    Hid (∀ w : World, IsRam w B rb has F M n → Calls Tryd.prog 65 #[.pointer (some ⟨rb, 0, none⟩), .int .u64 addr, .int .i64 size] w fun e w' => e = .returned (.tuple #[.int .u64 v, .int .i64 0]) ∧ IsRam w' B rb has F M n ∧ Below B w w') :=
  fun w h => load_ok h addr size v h0 h1 hz hv
theorem chk_in {F addr size : Int} (hs : size = 1 ∨ size = 2 ∨ size = 4 ∨ size = 8) (h0 : 0 ≤ addr) (h1 : addr + size ≤ F * 4096) (hF : F ≤ 1048576) : chkG (hasF F) addr size = 0 := by
  unfold chkG hasF
  rw [if_pos hs, if_pos ⟨by omega, by simp; omega, by simp; omega⟩]
end Go.Proofs.YtkiclbnbnjbcaabDoor
