/- The queue: drop. -/
import Derived.Test.YtcamghafjgjgdaaH2
namespace Go.Proofs.Ytcamghafjgjgdaa
open Go.ChangeShapes Go.WideShapes Go.ChangeAt Go.RowKit Go.Maps
set_option linter.unusedSimpArgs false
set_option linter.unusedVariables false

/-- the cells behind the copy -/
def copyN (N : List Int) (i m : Nat) : List Int := N.take (3 + i) ++ (N.drop (3 + i + 1)).take m ++ N.drop (3 + i + m)
theorem copyN_len (N : List Int) (i m : Nat) (h : N.length = 19) (hm : i + m < 16) : (copyN N i m).length = 19 := by
  simp [copyN, h]; omega
theorem lenA : Try.prog.arrayLen 46 = 16 := by kernel_rfl
theorem elemA : Try.prog.elem 46 = 3 := by kernel_rfl
theorem sizeI (W : World) : (sizeOf 3).run Try.prog W = .ok 1 W := by kernel_rfl
theorem slice_l (b i m : Nat) (hi : i + m = 16) (hm : 0 < m) (W : World) : (Instr.sliceAt 46 (.pointer (some ⟨b, 3, none⟩)) (some (.int .i64 (i : Int))) none none).run Try.prog W = .ok (.slice (some ⟨b, 3 + i, none⟩) m m) W := by
  rw [run_sliceAt_array_l W _ _ (by kernel_rfl) .i64 (i : Int) (by omega) (by rw [lenA]; omega), elemA, sizeI, lenA]
  have e : (i : Int).toNat = i := by simp
  have e2 : 16 - i = m := by omega
  show Result.ok (slicedAt _ _ _ _ _) W = _
  rw [slicedAt, e, e2, if_neg (by omega)]
  have : (Addr.add ⟨b, 3, none⟩ (i * 1)) = ⟨b, 3 + i, none⟩ := by
    unfold Addr.add
    by_cases c : i * 1 = 0
    · rw [if_pos c]; simp at c; subst c; rfl
    · rw [if_neg c]; simp
  rw [this]
theorem slice_lh (b i n m c : Nat) (hi : i + m = n) (hn : n < 16) (hc : i + 1 + c = 16) : ∃ a : Addr, (0 < m → a = ⟨b, 3 + i + 1, none⟩) ∧ ∀ (W : World), (Instr.sliceAt 46 (.pointer (some ⟨b, 3, none⟩)) (some (.int .i64 ((i : Int) + 1))) (some (.int .i64 ((n : Int) + 1))) none).run Try.prog W = .ok (.slice (some a) m c) W := by
  refine ⟨if 16 = i + 1 then ⟨b, 3, none⟩ else Addr.add ⟨b, 3, none⟩ ((i + 1) * 1), ?_, ?_⟩
  · intro h0
    rw [if_neg (by omega)]
    unfold Addr.add
    rw [if_neg (by omega)]; simp; omega
  · intro W
    rw [run_sliceAt_array_lh W _ _ (by kernel_rfl) .i64 .i64 ((i : Int) + 1) ((n : Int) + 1) (by omega) (by omega) (by rw [lenA]; omega), elemA, sizeI, lenA]
    have e : ((i : Int) + 1).toNat = i + 1 := by omega
    have e1 : ((n : Int) + 1).toNat = n + 1 := by omega
    have e2 : n + 1 - (i + 1) = m := by omega
    have e3 : 16 - (i + 1) = c := by omega
    show Result.ok (slicedAt _ _ _ _ _) W = _
    rw [slicedAt, e, e1, e2, e3]
theorem copy_run (b i m c d : Nat) (a : Addr) (N : List Int) (hi : i + m < 16) (hd : m ≤ d) (ha : 0 < m → a = ⟨b, 3 + i + 1, none⟩) (W : World) (h : IsN W b N) :
    (Builtin.copy_ #[28, 28] 3 #[.slice (some ⟨b, 3 + i, none⟩) d d, .slice (some a) m c]).run Try.prog W = .ok (.int .i64 (m : Int)) (W.setRow b ((copyN N i m).map (Value.int .i64)).toArray) := by
  have hl : ((N.drop (3 + i + 1)).take m).length = m := by have := h.many; simp; omega
  have r := run_copy_row (P := Try.prog) W 28 28 3 3 b (3 + i) d d a m c _ 48 (((N.drop (3 + i + 1)).take m).map (Value.int .i64))
    Try.underlying28 (by kernel_rfl) h.blk (by rw [List.length_map, hl]; exact (Nat.min_eq_left hd).symm) ?_ (by rw [List.length_map, hl]; have := h.many; simp; omega) ?_
  · rw [r, List.length_map, hl]
    have : (copyN N i m).map (Value.int .i64) = (((N.map (Value.int .i64)).toArray.toList.take (3 + i)) ++ (((N.drop (3 + i + 1)).take m).map (Value.int .i64)) ++ ((N.map (Value.int .i64)).toArray.toList.drop (3 + i + m))) := by
      simp [copyN, List.map_take, List.map_drop]
    rw [this]; rfl
  · intro j v hj
    rw [List.getElem?_map] at hj
    have hjm : j < m := by
      by_cases q : j < m
      · exact q
      · rw [List.getElem?_eq_none (by rw [hl]; omega)] at hj; cases hj
    rw [List.getElem?_take, if_pos hjm, List.getElem?_drop] at hj
    rw [ha (by omega)]
    have : (Addr.add ⟨b, 3 + i + 1, none⟩ j) = ⟨b, 3 + i + 1 + j, none⟩ := by
      unfold Addr.add
      by_cases q : j = 0
      · rw [if_pos q]; subst q; rfl
      · rw [if_neg q]
    rw [this, h.cell]; exact hj
  · intro v hv
    obtain ⟨x, _, rfl⟩ := List.mem_map.1 hv
    rfl
set_option maxHeartbeats 1000000 in
theorem drop_raw (b i n : Nat) (N : List Int) (hi : i ≤ n) (hn : n < 16) (hN : N[2]? = some ((n : Int) + 1)) (w : World) (h : IsN w b N) : Calls Try.prog 25 #[.pointer (some ⟨b, 0, none⟩), .int .i64 i] w fun e w' => e = .returned (.tuple #[]) ∧ (∃ M, M = (if i = 0 then (((copyN N i (n - i)).set 2 (n : Int)).set (3 + n) 0).set 1 0 else ((copyN N i (n - i)).set 2 (n : Int)).set (3 + n) 0) ∧ IsN w' b M) ∧ Kb b w w' := by
  have lt0 := blk_lt h.blk
  have c2 : w.cell? ⟨b, 2, none⟩ = some (.int .i64 ((n : Int) + 1)) := by rw [h.cell 2, hN]; rfl
  obtain ⟨m, hm⟩ : ∃ m, m = n - i := ⟨_, rfl⟩
  obtain ⟨d, hd⟩ : ∃ d, d = 16 - i := ⟨_, rfl⟩
  obtain ⟨c, hc⟩ : ∃ c, c = 16 - (i + 1) := ⟨_, rfl⟩
  rw [← hm]
  have s1 := slice_l b i d (by omega) (by omega)
  obtain ⟨a, ha, s2⟩ := slice_lh b i n m c (by omega) hn (by omega)
  have HD : IsN w.drew b N := h.kept (fun _ => rfl)
  have r := copy_run b i m c d a N (by omega) (by omega) ha w.drew HD
  have H1 := HD.row (copyN_len N i m h.many (by omega)) ((copyN N i m).map (Value.int .i64)).toArray rfl
  have K1 : Kb b w (w.drew.setRow b ((copyN N i m).map (Value.int .i64)).toArray) := (Kb.drew (Kb.refl b w)).trans (Kb.row _ _ _)
  generalize w.drew.setRow b ((copyN N i m).map (Value.int .i64)).toArray = w1 at r H1 K1
  have M2 : (copyN N i m)[2]? = some ((n : Int) + 1) := by
    rw [copyN, List.append_assoc, List.getElem?_append_left (by have := h.many; simp; omega), List.getElem?_take, if_pos (by omega)]; exact hN
  have ML := copyN_len N i m h.many (by omega)
  generalize copyN N i m = M at H1 M2 ML ⊢
  have e2 : w1.cell? ⟨b, 2, none⟩ = some (.int .i64 ((n : Int) + 1)) := by rw [H1.cell 2, M2]; rfl
  have f2 : w1.frozen? ⟨b, 2, none⟩ = false := H1.free _
  have f1 : w1.frozen? ⟨b, 1, none⟩ = false := H1.free _
  have fn : w1.frozen? ⟨b, 3 + n, none⟩ = false := H1.free _
  obtain ⟨v1, cv1⟩ : ∃ v, w1.cell? ⟨b, 1, none⟩ = some (.int .i64 v) := ⟨M[1], by rw [H1.cell 1, List.getElem?_eq_getElem (by omega)]; rfl⟩
  obtain ⟨vn, cvn⟩ : ∃ v, w1.cell? ⟨b, 3 + n, none⟩ = some (.int .i64 v) := ⟨M[3 + n], by rw [H1.cell (3 + n), List.getElem?_eq_getElem (by omega)]; rfl⟩
  have lt1 : b < w1.heap.size := blk_lt H1.blk
  have HH : Hid (IsN w1 b M) := H1
  have KK : Hid (Kb b w w1) := K1
  have HZ : Hid (i + m = n) := by show i + m = n; omega
  clear H1 K1 HD h ha hN hm hd hc
  have q1 : IntKind.i64.wrap ((i : Int) + 1) = (i : Int) + 1 := by rw [IntKind.wrap_i64]; omega
  by_cases z : i = 0
  · rw [if_pos z]
    have z2 : ((i : Int) == 0) = true := by simp [z]
    clear z
    go_enter Try.func25, Try.ntmps25
    go_wp2_with fail
    go_region
    all_goals (go_wp2_with fail)
    all_goals (go_region)
    all_goals (go_wp2_with fail)
    all_goals (go_returns)
    all_goals (exact ⟨rfl, ⟨_, rfl, (((HH.out.set _ _).set _ _).set _ _).kept (fun _ => rfl)⟩, KK.out.trans (((Kb.set _ _ _ _).trans (Kb.set _ _ _ _)).trans (Kb.set _ _ _ _)).drew⟩)
  · rw [if_neg z]
    have z2 : ((i : Int) == 0) = false := by simp [z]
    have z3 : ¬ (i : Int) = 0 := by omega
    go_enter Try.func25, Try.ntmps25
    go_wp2_with fail
    go_region
    all_goals (go_wp2_with fail)
    all_goals (go_region)
    all_goals (go_wp2_with fail)
    all_goals (go_returns)
    all_goals (exact ⟨rfl, ⟨_, rfl, ((HH.out.set _ _).set _ _).kept (fun _ => rfl)⟩, KK.out.trans ((Kb.set _ _ _ _).trans (Kb.set _ _ _ _)).drew⟩)
theorem nums_copy (q t : Int) (L : List Int) (i n : Nat) (hn : L.length = n + 1) (hi : i ≤ n) (h16 : n < 16) : ((copyN (Qu.nums ⟨q, t, L⟩) i (n - i)).set 2 (n : Int)).set (3 + n) 0 = Qu.nums ⟨q, t, L.eraseIdx i⟩ := by
  have le : (L.eraseIdx i).length = n := by rw [List.length_eraseIdx, if_pos (by omega)]; omega
  have hp : pad L = L ++ List.replicate (15 - n) 0 := by rw [pad, hn]; congr 2; omega
  have h1 : (pad L).take i = L.take i := by rw [hp, List.take_append_of_le_length (by omega)]
  have h2 : ((pad L).drop (i + 1)).take (n - i) = L.drop (i + 1) := by
    rw [hp, List.drop_append_of_le_length (by omega), List.take_append_of_le_length (by simp; omega), List.take_of_length_le (by simp; omega)]
  have h3 : (pad L).drop n = L.drop n ++ List.replicate (15 - n) 0 := by rw [hp, List.drop_append_of_le_length (by omega)]
  have h4 : copyN (Qu.nums ⟨q, t, L⟩) i (n - i) = q :: t :: ((n + 1 : Nat) : Int) :: (L.eraseIdx i ++ (L.drop n ++ List.replicate (15 - n) 0)) := by
    rw [List.eraseIdx_eq_take_drop_succ, copyN, Qu.nums, show 3 + i + 1 = (i + 1) + 1 + 1 + 1 by omega, show 3 + i + (n - i) = n + 1 + 1 + 1 by omega, show 3 + i = i + 1 + 1 + 1 by omega]
    simp only [List.take_succ_cons, List.drop_succ_cons, List.cons_append, h1, h2, h3, hn, List.append_assoc]
  have h5 : ∃ x, L.drop n = [x] := by
    have : (L.drop n).length = 1 := by simp [hn]
    exact List.length_eq_one_iff.1 this
  obtain ⟨x, hx⟩ := h5
  rw [h4, hx, show 3 + n = n + 1 + 1 + 1 by omega]
  simp only [List.set_cons_succ, List.set_cons_zero]
  rw [List.set_append_right _ _ (by omega), le, Nat.sub_self]
  simp only [Qu.nums, pad, le, List.singleton_append, List.set_cons_zero]
  rw [show 16 - n = (15 - n) + 1 by omega, List.replicate_succ]
theorem drop_any (b i : Nat) (q t : Int) (L : List Int) (hi : i < L.length) (w : World) (h : IsQ w b ⟨q, t, L⟩) : Calls Try.prog 25 #[.pointer (some ⟨b, 0, none⟩), .int .i64 i] w fun e w' => e = .returned (.tuple #[]) ∧ IsQ w' b ⟨q, if i = 0 then 0 else t, L.eraseIdx i⟩ ∧ Kb b w w' := by
  obtain ⟨n, hn⟩ : ∃ n, L.length = n + 1 := ⟨L.length - 1, by omega⟩
  have few := h.few
  have le : (L.eraseIdx i).length = n := by rw [List.length_eraseIdx, if_pos (by omega)]; omega
  simp only at few
  refine (drop_raw b i n (Qu.nums ⟨q, t, L⟩) (by omega) (by omega) (by simp [Qu.nums, hn]) w h.n).mono ?_
  rintro e w' ⟨rfl, ⟨M, rfl, hM⟩, hk⟩
  refine ⟨rfl, ?_, hk⟩
  rw [nums_copy q t L i n hn (by omega) (by omega)] at hM
  by_cases z : i = 0
  · rw [if_pos z] at hM ⊢
    exact hM.q rfl (by simp only; omega)
  · rw [if_neg z] at hM ⊢
    exact hM.q rfl (by simp only; omega)
end Go.Proofs.Ytcamghafjgjgdaa
