/- The document's queue: Has, Tick's and Yield's list, Add, Remove. -/
import Derived.Test.YtcamghafjgjgdaaH9
namespace Go.Proofs.Ytcamghafjgjgdaa
open Go.ChangeShapes Go.WideShapes Go.ChangeAt Go.RowKit Go.Maps
set_option linter.unusedSimpArgs false
set_option linter.unusedVariables false

theorem refq_info : (Try.prog.info? 30).map (·.size) = some 3 := by kernel_rfl
set_option maxHeartbeats 1000000 in
theorem has_any (q t x : Int) (p : Option Addr) (c : Nat) (L : List Int) (base : Nat) (hL : L.length ≤ 1000) (w : World) (h : IsI w p L base) :
    Calls Try.prog 24 #[.agg #[.int .i64 q, .int .i64 t, .slice p L.length c], .int .i64 x] w fun e w' => e = .returned (.bool (decide (x ∈ L))) ∧ Below w.heap.size w w' := by
  have HM : Hid (∀ k, k < L.length → ∃ v, L[k]? = some v) := fun k hk => ⟨L[k], List.getElem?_eq_getElem hk⟩
  have HI : Hid (∀ W : World, Below w.heap.size w W → ∀ k v, L[k]? = some v → ∃ g, p = some ⟨g, 0, none⟩ ∧ g < W.heap.size ∧ W.cell? ⟨g, k, none⟩ = some (.int .i64 v)) := fun W hb k v hv => by
    have hk : k < L.length := by
      by_cases z : k < L.length
      · exact z
      · rw [List.getElem?_eq_none (by omega)] at hv; cases hv
    obtain ⟨g, e, _, l, cc⟩ := h k hk
    rw [List.getElem?_eq_getElem hk] at hv
    refine ⟨g, e, Nat.lt_of_lt_of_le l hb.size, (World.cell?_of_block (hb.block g l)).trans ?_⟩
    rw [cc, Option.some.inj hv]
  have HX : Hid (∀ k v, L[k]? = some v → v = x → x ∈ L) := fun k v hv e => by rw [← e]; exact List.mem_of_getElem? hv
  have HN : Hid ((∀ k v, L[k]? = some v → v ≠ x) → x ∉ L) := fun hh hm => by
    obtain ⟨k, hk, e⟩ := List.getElem_of_mem hm
    exact hh k L[k] (List.getElem?_eq_getElem hk) e
  obtain ⟨r, hr⟩ : ∃ r, r = decide (x ∈ L) := ⟨_, rfl⟩
  have HR1 : Hid (x ∈ L → r = true) := fun z => by rw [hr, decide_eq_true z]
  have HR2 : Hid (x ∉ L → r = false) := fun z => by rw [hr, decide_eq_false z]
  rw [← hr]
  clear hr h
  have HNone : Hid (∀ k, ¬ k < L.length → ∀ v, L[k]? = some v → False) := fun k hk v hv => by rw [List.getElem?_eq_none (by omega)] at hv; cases hv
  obtain ⟨n, hn⟩ : ∃ n, n = L.length := ⟨_, rfl⟩
  rw [← hn] at HM HNone hL ⊢
  clear hn
  go_enter Try.func24, Try.ntmps24
  go_wp2_with fail
  go_loopw [10] (fun y W => ∃ k : Nat, k ≤ n ∧ y = .int .i64 k ∧ Hid (∀ j, j < k → ∀ v, L[j]? = some v → v ≠ x) ∧ Hid (Below w.heap.size w W)) (fun y _ => n - (intOf y).toNat)
  case atStart => exact ⟨0, by omega, rfl, fun j hj => absurd hj (Nat.not_lt_zero _), Go.Joins.below_alloc1 _ _⟩
  case round =>
    obtain ⟨k, hk, rfl, hj, hB⟩ := hrel
    by_cases hlt : k < n
    · have hd : decide ((k : Int) < (n : Int)) = true := by simp; omega
      obtain ⟨v, hv⟩ := HM.out k hlt
      obtain ⟨g, rfl, lg, cg⟩ := HI.out _ hB.out k v hv
      by_cases e : v = x
      · have e1 : (v == x) = true := by simp [e]
        have hr := HR1.out (HX.out k v hv e)
        have HR : Hid (r = true) := hr
        clear hr hv
        subst e
        go_wp2_with fail
        go_ret
        exact ⟨by rw [HR.out]; rfl, hB.out⟩
      · have e1 : (v == x) = false := by simp [e]
        have HJ : Hid (∀ j, j < k + 1 → ∀ v, L[j]? = some v → v ≠ x) := fun j h1 u hu => by
          rcases Nat.lt_succ_iff_lt_or_eq.1 h1 with q | rfl
          · exact hj.out j q u hu
          · rw [hv] at hu; cases hu; exact e
        clear hv
        go_wp2_with fail
        go_roundw
        case rel => exact ⟨k + 1, by omega, by go_num, HJ, hB⟩
        case measure => simp [intOf]; omega
    · obtain rfl : k = n := by omega
      have hd : decide ((k : Int) < (k : Int)) = false := by simp
      have hr := HR2.out (HN.out (fun j u hu => by
        by_cases z : j < k
        · exact hj.out j z u hu
        · exact (HNone.out j z u hu).elim))
      have HR : Hid (r = false) := hr
      clear hr
      go_wp2_with fail
      go_ret
      exact ⟨by rw [HR.out]; rfl, hB.out⟩
end Go.Proofs.Ytcamghafjgjgdaa
