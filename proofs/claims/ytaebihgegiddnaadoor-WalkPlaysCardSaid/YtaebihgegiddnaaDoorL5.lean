/- Walk over a memory that Lay made; numbers of awake. -/
import Derived.Test.YtaebihgegiddnaaDoorL4
namespace Go.Proofs.YtaebihgegiddnaaDoor
open Go.ChangeShapes Go.WideShapes Go.ChangeAt Go.RowKit Go.Maps
set_option linter.unusedSimpArgs false
set_option linter.unusedVariables false
set_option maxRecDepth 8000

theorem has8_bd (k : Int) (h : Has8 k = true) : 0 ≤ k ∧ k < 1048576 := by
  rw [has8] at h; simp at h; omega
theorem walk_play {w W : World} {K : Nat → Prop} {S : List Nat} {rb g cap mbx xb n m : Nat} {M M2 : Int → Int} (h : Play w W K S rb 8 [(7, 8)] g cap mbx xb M M2 n m) (ht : Tab w) (hn : n + 100 < maxLen) (root addr : Int) (a0 : 0 ≤ addr) (a1 : addr < 18446744073709551616) (x u f : Bool) :
    Calls Tryd.prog 7 #[.pointer (some ⟨rb, 0, none⟩), .int .i64 root, .int .u64 addr, .agg #[.bool x, .bool u, .bool f]] W fun e w' => e = .returned (walkW Has8 M root addr x u f).val ∧ Play w w' K S rb 8 [(7, 8)] g cap mbx xb (walkW Has8 M root addr x u f).M M2 (n + 8) m ∧ Kept K W w' := by
  refine (walk_any (w := W) (K0 := K) (rb := rb) (m := n) (has := Has8) (F := 8) (M := M) ⟨h.ram.ram, S, h.ram.ok, h.ram.sub⟩ (ht.below h.bel ht.1) (h.kw 0 ht.1) hn has8_bd root addr a0 a1 x u f).mono ?_
  rintro e w' ⟨he, hr, hk, _⟩
  exact ⟨he, h.next hr.1 hk, hk⟩
def A4 (k : Nat) : Pt := [Pt.mk 0 0 4103, ⟨1, 0, 8199⟩, ⟨2, 0, 12295⟩, ⟨3, 1, 16389⟩][k]?.getD ⟨0, 0, 0⟩
def aw1 : WR := walkW Has8 (layM A4 4) 0 4096 false true false
def aw2 : WR := walkW Has8 aw1.M 0 4096 true true false
theorem aw1_says : aw1.er = 0 ∧ aw1.fr = 4 := by decide +kernel
theorem aw2_says : aw2.er = 9 ∧ aw2.fa = 4096 ∧ aw2.fc = 7 := by decide +kernel
end Go.Proofs.YtaebihgegiddnaaDoor
