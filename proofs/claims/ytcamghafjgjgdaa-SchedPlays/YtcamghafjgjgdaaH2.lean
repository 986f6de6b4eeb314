/- The queue: push, slices.Index, place. -/
import Derived.Test.YtcamghafjgjgdaaH1
import Derived.BigQuiet
import Derived.Deep.QuietTactic
namespace Go.Proofs.Ytcamghafjgjgdaa
open Go.ChangeShapes Go.WideShapes Go.ChangeAt Go.RowKit Go.Maps
set_option linter.unusedSimpArgs false
set_option linter.unusedVariables false

theorem nums_push (q t p : Int) (L : List Int) (h : L.length < 16) : ((Qu.nums ⟨q, t, L⟩).set (3 + L.length) p).set 2 ((L.length : Int) + 1) = Qu.nums ⟨q, t, L ++ [p]⟩ := by
  have e : 16 - L.length = (16 - (L.length + 1)) + 1 := by omega
  have e3 : 3 + L.length = L.length + 1 + 1 + 1 := by omega
  simp only [Qu.nums, pad, e, e3, List.set_cons_succ, List.set_cons_zero, List.replicate_succ, List.length_append, List.length_singleton, List.append_assoc, List.singleton_append]
  simp
set_option maxHeartbeats 400000 in
theorem push_any (b : Nat) (q t p : Int) (L : List Int) (hL : L.length < 16) (w : World) (h : IsQ w b ⟨q, t, L⟩) : Calls Try.prog 23 #[.pointer (some ⟨b, 0, none⟩), .int .i64 p] w fun e w' => e = .returned (.tuple #[]) ∧ IsQ w' b ⟨q, t, L ++ [p]⟩ ∧ Kb b w w' := by
  have H : Hid (IsQ w b ⟨q, t, L⟩) := h
  have lt0 := blk_lt h.blk
  have c2 := h.c2
  obtain ⟨v, cv⟩ := h.there L.length hL
  have fz : w.frozen? ⟨b, 3 + L.length, none⟩ = false := h.free _
  have f2 : w.frozen? ⟨b, 2, none⟩ = false := h.free _
  have NP := nums_push q t p L hL
  simp only at c2 cv
  clear h
  have HN : Hid (∀ W : World, IsN W b (((Qu.nums ⟨q, t, L⟩).set (3 + L.length) p).set 2 ((L.length : Int) + 1)) → IsQ W b ⟨q, t, L ++ [p]⟩) := fun W k => k.q NP (by simp; omega)
  clear NP
  have H1 : Hid (IsN w b (Qu.nums ⟨q, t, L⟩)) := H.out.n
  clear H
  generalize Qu.nums ⟨q, t, L⟩ = N at H1 HN
  generalize L.length = n at *
  have d1 : decide ((n : Int) < 16) = true := by simp; omega
  have d0 : decide ((n : Int) < 0) = false := by simp
  go_enter Try.func23, Try.ntmps23
  go_wp2_with fail
  go_region
  all_goals (go_wp2_with fail)
  all_goals (go_returns)
  all_goals (exact ⟨rfl, HN.out _ (((H1.out.set _ _).set _ _).kept (fun _ => rfl)), ((Kb.set _ _ _ _).trans (Kb.set _ _ _ _)).drew⟩)
/-- the first place of p in the line; how many there are, if it isn't there -/
def fstAt (L : List Int) (p : Int) : Nat := L.findIdx (· == p)
theorem fst_le (L : List Int) (p : Int) : fstAt L p ≤ L.length := List.findIdx_le_length
theorem fst_no {L : List Int} {p : Int} {j : Nat} (h : j < fstAt L p) : ∃ hj : j < L.length, ¬ L[j] = p := by
  have l := Nat.lt_of_lt_of_le h (fst_le L p)
  refine ⟨l, ?_⟩
  have := List.not_of_lt_findIdx h
  simpa using this
theorem fst_yes {L : List Int} {p : Int} (h : fstAt L p < L.length) : L[fstAt L p] = p := by
  have := List.findIdx_getElem (p := (· == p)) (xs := L) (w := h)
  show L[List.findIdx (· == p) L]'h = p
  simpa using this
theorem fst_lt {L : List Int} {p : Int} : fstAt L p < L.length ↔ p ∈ L := by
  constructor
  · intro h; have := fst_yes h; rw [← this]; exact List.getElem_mem _
  · intro h; exact List.findIdx_lt_length_of_exists ⟨p, h, by simp⟩
def plc (L : List Int) (p : Int) : Int := if fstAt L p < L.length then (fstAt L p : Int) else -1
set_option maxHeartbeats 1000000 in
theorem index_raw (b n k0 : Nat) (A : Nat → Int) (p r : Int) (hL : n ≤ 16) (hle : k0 ≤ n) (w : World) (hw : b < w.heap.size) (HC : Hid (∀ i, i < n → w.cell? ⟨b, 3 + i, none⟩ = some (.int .i64 (A i))))
    (HR : Hid (∀ j, j < k0 → ¬ A j = p)) (HY : Hid (k0 < n → A k0 = p)) (HP : Hid (r = if k0 < n then (k0 : Int) else -1)) :
    Calls Try.prog 26 #[.slice (some ⟨b, 3, none⟩) n 16, .int .i64 p] w fun e w' => e = .returned (.int .i64 r) ∧ w' = w := by
  go_enter Try.func26, Try.ntmps26
  go_wp2_with fail
  go_loopw [8] (fun x W => ∃ k : Nat, k ≤ k0 ∧ x = .int .i64 k ∧ W = w) (fun x _ => n - (intOf x).toNat)
  case atStart => exact ⟨0, by omega, rfl, rfl⟩
  case round =>
    obtain ⟨k, hk, rfl, rfl⟩ := hrel
    by_cases hlt : k < n
    · have hd : decide ((k : Int) < (n : Int)) = true := by simp; omega
      have hdk : (decide ((k : Int) < 0)) = false := by simp
      obtain ⟨v, hv⟩ : ∃ v, v = A k := ⟨_, rfl⟩
      have c0 : wr.cell? ⟨b, 3 + k, none⟩ = some (.int .i64 v) := by rw [hv]; exact HC.out k hlt
      by_cases e : k < k0
      · have e1 : ¬ p = v := by rw [hv]; exact fun z => HR.out k e z.symm
        have e2 : (p == v) = false := by simp [e1]
        clear hv
        go_wp2_with fail
        go_roundw
        case rel => exact ⟨k + 1, by omega, by go_num, trivial⟩
        case measure => simp [intOf]; omega
      · obtain rfl : k = k0 := by omega
        have e1 : v = p := by rw [hv]; exact HY.out hlt
        subst e1
        clear hv
        have e2 : (v == v) = true := by simp
        go_wp2_with fail
        go_ret
        exact ⟨by rw [HP.out, if_pos hlt]; rfl, rfl⟩
    · obtain rfl : k = n := by omega
      have hd : decide ((k : Int) < (k : Int)) = false := by simp
      go_wp2_with fail
      go_ret
      exact ⟨by rw [HP.out, if_neg (by omega)]; rfl, rfl⟩
theorem index_any (b : Nat) (L : List Int) (p : Int) (hL : L.length ≤ 16) (w : World) (hw : b < w.heap.size) (hc : ∀ i (hi : i < L.length), w.cell? ⟨b, 3 + i, none⟩ = some (.int .i64 L[i])) :
    Calls Try.prog 26 #[.slice (some ⟨b, 3, none⟩) L.length 16, .int .i64 p] w fun e w' => e = .returned (.int .i64 (plc L p)) ∧ w' = w := by
  have at' : ∀ i (hi : i < L.length), L[i]?.getD 0 = L[i] := fun i hi => by rw [List.getElem?_eq_getElem hi]; rfl
  refine index_raw b L.length (fstAt L p) (fun i => L[i]?.getD 0) p _ hL (fst_le L p) w hw (fun i hi => ?_) (fun j hj => ?_) (fun h => ?_) rfl
  · show _ = some (Value.int .i64 (L[i]?.getD 0)); rw [at' i hi]; exact hc i hi
  · obtain ⟨l, e⟩ := fst_no hj
    show ¬ L[j]?.getD 0 = p; rw [at' j l]; exact e
  · show L[fstAt L p]?.getD 0 = p; rw [at' _ h]; exact fst_yes h
set_option maxHeartbeats 1000000 in
theorem place_any (b : Nat) (q t : Int) (L : List Int) (p : Int) (w : World) (h : IsQ w b ⟨q, t, L⟩) :
    Calls Try.prog 22 #[.pointer (some ⟨b, 0, none⟩), .int .i64 p] w fun e w' => e = .returned (.int .i64 (plc L p)) ∧ Below w.heap.size w w' := by
  have HI : Hid (∀ W : World, b < W.heap.size → (∀ i (hi : i < L.length), W.cell? ⟨b, 3 + i, none⟩ = some (.int .i64 L[i])) → Calls Try.prog 26 #[.slice (some ⟨b, 3, none⟩) L.length 16, .int .i64 p] W fun e w' => e = .returned (.int .i64 (plc L p)) ∧ w' = W) := fun W a c => index_any b L p h.few W a c
  have lt0 := blk_lt h.blk
  have c2 := h.c2
  have few := h.few
  simp only at few c2
  have HC : Hid (∀ i (hi : i < L.length), w.cell? ⟨b, 3 + i, none⟩ = some (.int .i64 L[i])) := fun i hi => h.cl i hi
  clear h
  have n0 : (0 : Int) ≤ (L.length : Int) := by omega
  have n1 : (L.length : Int) ≤ 16 := by omega
  obtain ⟨r, hr⟩ : ∃ r, r = plc L p := ⟨_, rfl⟩
  rw [← hr] at HI ⊢
  clear hr
  go_enter Try.func22, Try.ntmps22
  go_wp2_with fail
  go_quiet ((go_at_call 26; refine Calls.quiet_of_same (HI.out _ lt0 HC.out)))
  go_wp2_with fail
  go_returns
  exact ⟨rfl, ⟨rfl, rfl, rfl, Nat.le_refl _, fun _ _ => rfl⟩⟩
end Go.Proofs.Ytcamghafjgjgdaa
