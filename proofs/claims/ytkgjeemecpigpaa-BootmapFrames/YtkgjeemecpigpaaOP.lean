/- Boot maps: the document's whole and touched. -/
import Derived.Test.YtkgjeemecpigpaaON
namespace Go.Proofs.Ytkgjeemecpigpaa.Bm
open Go.ChangeShapes Go.WideShapes Go.ChangeAt Go.RowKit Go.Maps
set_option linter.unusedSimpArgs false
set_option linter.unusedVariables false
set_option maxRecDepth 8000

theorem and4095 (f : Int) (f0 : 0 ≤ f) (f1 : f < 18446744073709551616) : bits .and .u64 f 4095 = f % 4096 := by
  rw [u64_and _ _ f0 f1 (by omega) (by omega)]
  rw [show (4095 : Int).toNat = 2 ^ 12 - 1 from rfl, Nat.and_two_pow_sub_one_eq_mod]
  omega
set_option maxHeartbeats 1000000 in
theorem rwhole_any (f l k F : Int) (f0 : 0 ≤ f) (l0 : 0 ≤ l) (hs : f + l < 18446744073709551616) (F0 : 0 ≤ F) (F1 : F ≤ 1048576) (a b : Int) (ha : a = min ((f + 4095) / 4096) F) (hb : b = min ((f + l) / 4096) F) (w : World) : Calls Try.prog 34 #[.agg #[.int .u64 f, .int .u64 l, .int .u32 k], .int .u64 F] w fun e w' => e = .returned (.agg #[.int .i64 a, .int .i64 b]) ∧ Below w.heap.size w w' := by
  have an := and4095 f f0 (by omega)
  have u1 : IntKind.u64.wrap (f + l) = f + l := by rw [IntKind.wrap_u64, Int.emod_eq_of_lt (by omega) (by omega)]
  go_enter Try.func34, Try.ntmps34
  by_cases c : f % 4096 = 0
  · have d1 : decide (0 < f % 4096) = false := decide_eq_false (by omega)
    go_wp2_with fail
    have e1 : min (f / 4096) F = a := by rw [ha]; congr 1; omega
    exact bodyPost_ret (v := .agg #[.int .i64 (min (f / 4096) F), .int .i64 (min ((f + l) / 4096) F)]) (by simp [results, Try.results34, go_sem]) rfl ⟨by rw [e1, hb], below_new (Go.Joins.below_alloc1 _ _) _⟩
  · have d1 : decide (0 < f % 4096) = true := decide_eq_true (by omega)
    have u2 : IntKind.u64.wrap (f / 4096 + 1) = f / 4096 + 1 := by rw [IntKind.wrap_u64, Int.emod_eq_of_lt (by omega) (by omega)]
    go_wp2_with fail
    have e1 : min (f / 4096 + 1) F = a := by rw [ha]; congr 1; omega
    exact bodyPost_ret (v := .agg #[.int .i64 (min (f / 4096 + 1) F), .int .i64 (min ((f + l) / 4096) F)]) (by simp [results, Try.results34, go_sem]) rfl ⟨by rw [e1, hb], below_new (Go.Joins.below_alloc1 _ _) _⟩
set_option maxHeartbeats 1000000 in
theorem rtouched_any (f l k F : Int) (f0 : 0 ≤ f) (l0 : 0 < l) (hs : f + l < 18446744073709551616) (F0 : 0 ≤ F) (F1 : F ≤ 1048576) (a b : Int) (ha : a = min (f / 4096) F) (hb : b = min ((f + l - 1) / 4096 + 1) F) (w : World) : Calls Try.prog 35 #[.agg #[.int .u64 f, .int .u64 l, .int .u32 k], .int .u64 F] w fun e w' => e = .returned (.agg #[.int .i64 a, .int .i64 b]) ∧ Below w.heap.size w w' := by
  have n0 : (l == 0) = false := by simp; omega
  have n1 : ¬ l = 0 := by omega
  have u1 : IntKind.u64.wrap (f + l) = f + l := by rw [IntKind.wrap_u64, Int.emod_eq_of_lt (by omega) (by omega)]
  have u2 : IntKind.u64.wrap (f + l - 1) = f + l - 1 := by rw [IntKind.wrap_u64, Int.emod_eq_of_lt (by omega) (by omega)]
  have u3 : IntKind.u64.wrap ((f + l - 1) / 4096 + 1) = (f + l - 1) / 4096 + 1 := by rw [IntKind.wrap_u64, Int.emod_eq_of_lt (by omega) (by omega)]
  go_enter Try.func35, Try.ntmps35
  go_wp2_with fail
  exact bodyPost_ret (v := .agg #[.int .i64 (min (f / 4096) F), .int .i64 (min ((f + l - 1) / 4096 + 1) F)]) (by simp [results, Try.results35, go_sem]) rfl ⟨by rw [ha, hb], below_new (Go.Joins.below_alloc1 _ _) _⟩
theorem rtouched_none (f k F : Int) (w : World) : Calls Try.prog 35 #[.agg #[.int .u64 f, .int .u64 0, .int .u32 k], .int .u64 F] w fun e w' => e = .returned (.agg #[.int .i64 0, .int .i64 0]) ∧ Below w.heap.size w w' := by
  go_enter Try.func35, Try.ntmps35
  go_wp2_with fail
  exact bodyPost_ret (v := .agg #[.int .i64 0, .int .i64 0]) (by simp [results, Try.results35, go_sem]) rfl ⟨rfl, below_new (Go.Joins.below_alloc1 _ _) _⟩
/-- the same, no frame beyond the memory -/
def ruseR (F : Int) (x : Ar) : Int × Int := (min ((x.f + 4095) / 4096) F, min ((x.f + x.l) / 4096) F)
def rtchR (F : Int) (x : Ar) : Int × Int := if x.l = 0 then (0, 0) else (min (x.f / 4096) F, min ((x.f + x.l - 1) / 4096 + 1) F)
def ruseL (F : Int) (A : List Ar) : List (Int × Int) := (A.filter (fun x => decide (x.k = 1))).map (ruseR F)
def rawayL (F : Int) (k : Int × Int) (A : List Ar) : List (Int × Int) := k :: (A.filter (fun x => decide (x.k ≠ 1))).map (rtchR F)
theorem ruse_len (F : Int) (A : List Ar) : (ruseL F A).length ≤ A.length := by unfold ruseL; rw [List.length_map]; exact List.length_filter_le _ _
theorem raway_len (F : Int) (k : Int × Int) (A : List Ar) : (rawayL F k A).length ≤ A.length + 1 := by
  have := List.length_filter_le (fun x : Ar => decide (x.k ≠ 1)) A
  unfold rawayL; rw [List.length_cons, List.length_map]; omega
theorem ruse_yes {F : Int} {A : List Ar} {i : Nat} (h : i < A.length) (hk : A[i].k = 1) : ruseL F (A.take (i + 1)) = ruseL F (A.take i) ++ [ruseR F A[i]] := by
  unfold ruseL; rw [take_next A i h, List.filter_append]; simp [List.filter_cons, hk]
theorem ruse_no {F : Int} {A : List Ar} {i : Nat} (h : i < A.length) (hk : A[i].k ≠ 1) : ruseL F (A.take (i + 1)) = ruseL F (A.take i) := by
  unfold ruseL; rw [take_next A i h, List.filter_append]; simp [List.filter_cons, hk]
theorem raway_yes {F : Int} {k : Int × Int} {A : List Ar} {i : Nat} (h : i < A.length) (hk : A[i].k ≠ 1) : rawayL F k (A.take (i + 1)) = rawayL F k (A.take i) ++ [rtchR F A[i]] := by
  unfold rawayL; rw [take_next A i h, List.filter_append]; simp [List.filter_cons, hk]
theorem raway_no {F : Int} {k : Int × Int} {A : List Ar} {i : Nat} (h : i < A.length) (hk : A[i].k = 1) : rawayL F k (A.take (i + 1)) = rawayL F k (A.take i) := by
  unfold rawayL; rw [take_next A i h, List.filter_append]; simp [List.filter_cons, hk]
theorem has_map_same {f g : Ar → Int × Int} {n : Int} (h : ∀ x, ((f x).1 ≤ n ∧ n < (f x).2) ↔ ((g x).1 ≤ n ∧ n < (g x).2)) (A : List Ar) : Has (A.map f) n ↔ Has (A.map g) n := by
  constructor
  · rintro ⟨r, hr, q⟩
    obtain ⟨x, hx, rfl⟩ := List.mem_map.1 hr
    exact ⟨g x, List.mem_map.2 ⟨x, hx, rfl⟩, (h x).1 q⟩
  · rintro ⟨r, hr, q⟩
    obtain ⟨x, hx, rfl⟩ := List.mem_map.1 hr
    exact ⟨f x, List.mem_map.2 ⟨x, hx, rfl⟩, (h x).2 q⟩
/-- what lies beyond the memory makes no odds -/
theorem clip_any (F : Int) (k : Int × Int) (A : List Ar) (n : Int) : (Has (ruseL F A) n ∧ ¬ Has (rawayL F k A) n) ↔ FR F k A n := by
  have h1 : Has (ruseL F A) n ↔ Has (useL F A) n := by
    unfold ruseL useL
    refine has_map_same (fun x => ?_) _
    show (min ((x.f + 4095) / 4096) F ≤ n ∧ n < min ((x.f + x.l) / 4096) F) ↔ ((x.f + 4095) / 4096 ≤ n ∧ n < min ((x.f + x.l) / 4096) F)
    omega
  by_cases c : n < F
  · have h2 : Has (rawayL F k A) n ↔ Has (awayL k A) n := by
      unfold rawayL awayL
      rw [has_cons, has_cons]
      have : Has ((A.filter (fun x => decide (x.k ≠ 1))).map (rtchR F)) n ↔ Has ((A.filter (fun x => decide (x.k ≠ 1))).map tchR) n := by
        refine has_map_same (fun x => ?_) _
        unfold rtchR tchR
        by_cases l0 : x.l = 0
        · rw [if_pos l0, if_pos l0]
        · rw [if_neg l0, if_neg l0]
          show (min (x.f / 4096) F ≤ n ∧ n < min ((x.f + x.l - 1) / 4096 + 1) F) ↔ (x.f / 4096 ≤ n ∧ n < (x.f + x.l - 1) / 4096 + 1)
          omega
      rw [this]
    unfold FR
    rw [h1, h2]
  · have no : ¬ Has (useL F A) n := fun ⟨r, hr, q1, q2⟩ => by
      unfold useL at hr
      obtain ⟨x, hx, rfl⟩ := List.mem_map.1 hr
      have q3 : n < min ((x.f + x.l) / 4096) F := q2
      omega
    unfold FR
    rw [h1]
    exact ⟨fun h => absurd h.1 no, fun h => absurd h.1 no⟩
end Go.Proofs.Ytkgjeemecpigpaa.Bm
