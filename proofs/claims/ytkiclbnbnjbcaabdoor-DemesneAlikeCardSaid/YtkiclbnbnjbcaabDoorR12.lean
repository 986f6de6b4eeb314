/- The contract of ram's Clear. -/
import Derived.Test.YtkiclbnbnjbcaabDoorR11
import Derived.Laws.Rows
import Derived.Stop.BytesEq
namespace Go.Proofs.YtkiclbnbnjbcaabDoor
open Go.ChangeShapes Go.WideShapes Go.ChangeAt Go.RowKit Go.Maps
set_option linter.unusedSimpArgs false
set_option linter.unusedVariables false
set_option maxRecDepth 8000

theorem wpList_load_page {ops : Array Oper} {rest : List Oper} {o : Oper} {a : Act} {w : World} {Q : Exit → Act → World → Prop} (x : Operand) (ho : o.op = .load 125 x) (hw : Region.wanted o (yielded ops a.tmps) = true)
    (b : Nat) (hx : a.eval x = .pointer (some ⟨b, 0, none⟩)) (arr : Array Value) (hlv : (loadVar 125 ⟨b, 0, none⟩).run Tryd.prog w = .ok (.agg arr) w)
    (h : wpList Tryd.prog ops Q rest (a.put o.dst (.agg arr)) w) : wpList Tryd.prog ops Q (o :: rest) a w := by
  unfold wpList
  rw [if_pos hw]
  left
  unfold Oper.wp execOp
  simp only [ho, hx, Instr.loadAt, Instr.sureAddr, Sem.run_bind, Sem.run_pure, Result.andThen_ok, hlv]
  exact h

/-- a page's bytes as a value -/
def bytesOf (c : Nat → Int) : List UInt8 := (List.range 4096).map fun i => (c i).toNat.toUInt8
def pageArr (c : Nat → Int) : Array Value := ((bytesOf c).map Extern.Stop.cell).toArray
theorem pageArr_size (c : Nat → Int) : (pageArr c).size = 4096 := by simp [pageArr, bytesOf]
theorem pageArr_get {c : Nat → Int} (hc : ∀ i, 0 ≤ c i ∧ c i < 256) {i : Nat} (hi : i < 4096) : (pageArr c)[i]? = some (.int .u8 (c i)) := by
  have h := hc i
  simp only [pageArr, bytesOf, List.getElem?_toArray, List.getElem?_map, List.getElem?_range hi, Option.map_some, Extern.Stop.cell]
  congr 2
  simp
  omega
theorem page_info : (Tryd.prog.info? 125).map (·.size) = some 4096 := by kernel_rfl

theorem load_page {w : World} {b : Nat} {c : Nat → Int} (h : Page w b c) (hc : ∀ i, 0 ≤ c i ∧ c i < 256) : (loadVar 125 ⟨b, 0, none⟩).run Tryd.prog w = .ok (.agg (pageArr c)) w := by
  have hl : (loadCells ⟨b, 0, none⟩ (pageArr c).toList.length).run Tryd.prog w = .ok (pageArr c).toList.toArray w :=
    run_loadCells_list (P := Tryd.prog) w ⟨b, 0, none⟩ (pageArr c).toList (fun j v hv => by
      have hadd : (⟨b, 0, none⟩ : Addr).add j = ⟨b, j, none⟩ := by unfold Addr.add; split <;> simp_all
      have hj : j < 4096 := by
        have := (List.getElem?_eq_some_iff.1 hv).1
        rw [Array.length_toList, pageArr_size] at this; exact this
      rw [hadd, (h j hj).1, ← pageArr_get hc hj]
      rw [Array.getElem?_toList] at hv; exact hv)
  simp only [Array.length_toList, Array.toArray_toList, pageArr_size] at hl
  cases hq : Tryd.prog.info? 125 with
  | none => have := page_info; rw [hq] at this; cases this
  | some i =>
    have hs : i.size = 4096 := by have := page_info; rw [hq] at this; simpa using this
    have hagg : (isAgg 125).run Tryd.prog w = .ok true w := by
      unfold isAgg
      rw [Sem.run_bind, run_underlying Tryd.underlying125 w]
      rfl
    simp [loadVar, Sem.run_bind, hagg, sizeOf, typeInfo, hq, hs, hl]

/-- are a frame's bytes all 0? -/
def clr (M : Int → Int) (k : Int) : Bool := decide (∀ i : Nat, i < 4096 → M (k * 4096 + i) = 0)

theorem zeros_eq : (Array.replicate 4096 (Value.int .u8 0)) = ((List.replicate 4096 (0 : UInt8)).map Extern.Stop.cell).toArray := by
  rw [List.map_replicate, List.toArray_replicate]; rfl
theorem byte_size (w : World) : (sizeOf 5).run Tryd.prog w = .ok 1 w := by kernel_rfl
theorem bytes_zero {c : Nat → Int} (hc : ∀ i, 0 ≤ c i ∧ c i < 256) : (bytesOf c == List.replicate 4096 0) = decide (∀ i : Nat, i < 4096 → c i = 0) := by
  rw [Bool.eq_iff_iff, beq_iff_eq, decide_eq_true_iff]
  constructor
  · intro h i hi
    have h1 : (bytesOf c)[i]? = (List.replicate 4096 (0 : UInt8))[i]? := by rw [h]
    simp only [bytesOf, List.getElem?_map, List.getElem?_range hi, Option.map_some, List.getElem?_replicate, if_pos hi, Option.some.injEq] at h1
    have h2 := congrArg UInt8.toNat h1
    have hb := hc i
    simp at h2
    omega
  · intro h
    apply List.ext_getElem?
    intro i
    by_cases hi : i < 4096
    · simp only [bytesOf, List.getElem?_map, List.getElem?_range hi, Option.map_some, List.getElem?_replicate, if_pos hi, h i hi]
      rfl
    · rw [List.getElem?_eq_none (by simp [bytesOf]; omega), List.getElem?_eq_none (by rw [List.length_replicate]; omega)]
theorem page_eq {c : Nat → Int} (hc : ∀ i, 0 ≤ c i ∧ c i < 256) (w : World) :
    (Op.equalIn 10000 125 (.agg (pageArr c)) (.agg (Array.replicate 4096 (Value.int .u8 0)))).run Tryd.prog w = .ok (decide (∀ i : Nat, i < 4096 → c i = 0)) w := by
  rw [zeros_eq, ← bytes_zero hc]
  exact run_equalIn_bytes w 9998 125 5 4096 Tryd.underlying125 Tryd.underlying5 byte_size (bytesOf c) _ (by simp [bytesOf]) List.length_replicate

set_option maxHeartbeats 400000 in
theorem clear_none (rb mb : Nat) (k : Int) (w : World) (c2 : w.cell? ⟨rb, 2, none⟩ = some (.map (some mb)))
    (hl' : (Instr.lookup 97 (.map (some mb)) (.int .i64 k) false).run Tryd.prog w = .ok (.pointer none) w) :
    Calls Tryd.prog 38 #[.pointer (some ⟨rb, 0, none⟩), .int .i64 k] w fun e w' => e = .returned (.bool true) ∧ w' = w := by
  go_enter Tryd.func38, Tryd.ntmps38
  go_wp2
  go_ret
  exact ⟨rfl, rfl⟩
set_option maxHeartbeats 400000 in
theorem clear_some (rb mb b : Nat) (k : Int) (w : World) (r : Bool) (arr zs : Array Value)
    (c2 : w.cell? ⟨rb, 2, none⟩ = some (.map (some mb)))
    (hl' : (Instr.lookup 97 (.map (some mb)) (.int .i64 k) false).run Tryd.prog w = .ok (.pointer (some ⟨b, 0, none⟩)) w)
    (hz : ∀ w : World, (zeroValue 125).run Tryd.prog w = .ok (.agg zs) w)
    (hlv : Hid ((loadVar 125 ⟨b, 0, none⟩).run Tryd.prog w = .ok (.agg arr) w))
    (heq : (Op.equalIn 10000 125 (.agg arr) (.agg zs)).run Tryd.prog w = .ok r w) :
    Calls Tryd.prog 38 #[.pointer (some ⟨rb, 0, none⟩), .int .i64 k] w fun e w' => e = .returned (.bool r) ∧ w' = w := by
  go_enter Tryd.func38, Tryd.ntmps38
  go_wp2_with (refine wpList_load_page _ rfl rfl b rfl arr hlv.out ?_)
  go_ret
  exact ⟨rfl, rfl⟩
theorem clear_any {w : World} {B rb : Nat} {has : Int → Bool} {F : Int} {M : Int → Int} {n : Nat} (h : IsRam w B rb has F M n) (k : Int) (k0 : -9223372036854775808 ≤ k) (k1 : k ≤ 9223372036854775807) :
    Calls Tryd.prog 38 #[.pointer (some ⟨rb, 0, none⟩), .int .i64 k] w fun e w' => e = .returned (.bool (clr M k)) ∧ w' = w := by
  obtain ⟨mb, S, pg, q1, q2, hk, q3, q4, q5, hm, hp, hi, hz, hb⟩ := h
  have hl := hm.look k0 k1
  cases hpk : pg k with
  | none =>
    rw [hpk] at hl
    have hc : clr M k = true := by unfold clr; exact decide_eq_true (fun i hi' => hz k hpk i hi')
    rw [hc]; exact clear_none rb mb k w q5 hl
  | some b =>
    rw [hpk] at hl
    obtain ⟨r1, r2, r3, r4, r5⟩ := hp k b hpk
    exact clear_some rb mb b k w _ (pageArr (fun i => M (k * 4096 + i))) (Array.replicate 4096 (.int .u8 0)) q5 hl zero_run (load_page r5 (fun i => hb _)) (page_eq (fun i => hb _) w)
theorem cl_at {B rb : Nat} {has : Int → Bool} {F : Int} (M : Int → Int) (n : Nat) (k : Int) (r : Bool) (k0 : -9223372036854775808 ≤ k) (k1 : k ≤ 9223372036854775807) (hr : clr M k = r) :
    Hid (∀ w : World, IsRam w B rb has F M n → Calls Tryd.prog 38 #[.pointer (some ⟨rb, 0, none⟩), .int .i64 k] w fun e w' => e = .returned (.bool r) ∧ w' = w) :=
  fun w h => by rw [← hr]; exact clear_any h k k0 k1
theorem zr_at {B rb : Nat} {has : Int → Bool} {F : Int} (M : Int → Int) (n : Nat) (k : Int) (k0 : -9223372036854775808 ≤ k) (k1 : k ≤ 9223372036854775807) (hh : has k = true) :
    Hid (∀ w : World, IsRam w B rb has F M n → Calls Tryd.prog 46 #[.pointer (some ⟨rb, 0, none⟩), .int .i64 k] w fun e w' => e = .returned (.int .i64 0) ∧ IsRam w' B rb has F (mzero M k) n ∧ Below B w w') :=
  fun w h => zero_ok h k k0 k1 hh
end Go.Proofs.YtkiclbnbnjbcaabDoor
