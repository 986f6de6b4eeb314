/- Boot maps: ranges are cloned and sorted. -/
import Derived.Test.YtpfcpmhpekidkaaO4
import Derived.Shelf.SlicesE.Clone
import Derived.Shelf.SlSortCmp.WholeK
import Derived.Shelf.SlSortCmp.NoneTotal
import Derived.Ground.SlgnProg
import Derived.Ground.SlsfProg
namespace Go.Proofs.Ytpfcpmhpekidkaa.Bm
open Go.ChangeShapes Go.WideShapes Go.ChangeAt Go.RowKit Go.Maps Go.Sort Go.Shelf
set_option linter.unusedSimpArgs false
set_option linter.unusedVariables false
set_option maxRecDepth 8000

def cloneR_ren : Go.Shelf.Ren := ⟨fun | 41 => 42 | n => n, fun | 22 => 25 | 23 => 30 | 4 => 4 | n => n, fun | n => n⟩
theorem cloneR : Go.Proofs.SlLaysE0.n41 Try.prog cloneR_ren := {
  mixed := by kernel_rfl
  f41 := ⟨Try.f42.name, by decide, Try.func42.trans (congrArg some (by kernel_rfl))⟩
  t4 := Try.underlying4
  a4 := Try.isAgg4
  z4 := Try.sizeOf4
  v4 := Try.zeroValue4
  t22 := Try.underlying25
  a22 := Try.isAgg25
  z22 := Try.sizeOf25
  v22 := Try.zeroValue25 }
def sortR_ren : Go.Shelf.Ren := ⟨fun | 6 => 43 | 15 => 55 | 14 => 54 | 28 => 71 | 29 => 72 | 20 => 63 | 21 => 64 | 22 => 65 | 23 => 66 | 24 => 67 | 25 => 68 | 26 => 69 | 27 => 70 | 46 => 83 | 47 => 84 | 48 => 85 | 49 => 86 | 50 => 87 | 57 => 91 | n => n, fun | 22 => 25 | 24 => 30 | 25 => 93 | 3 => 3 | 39 => 102 | 0 => 0 | 53 => 52 | 55 => 51 | 4 => 4 | 46 => 113 | 45 => 112 | 50 => 117 | 5 => 5 | 9 => 9 | 66 => 129 | 70 => 132 | 76 => 136 | 77 => 137 | n => n, fun | n => n⟩
theorem sortR : Go.Proofs.SlLaysF0.n6 Try.prog sortR_ren := {
  mixed := by kernel_rfl
  f6 := ⟨Try.f43.name, by decide, Try.func43.trans (congrArg some (by kernel_rfl))⟩
  f14 := ⟨Try.f54.name, by decide, Try.func54.trans (congrArg some (by kernel_rfl))⟩
  f15 := Try.func55.trans (congrArg some (by kernel_rfl))
  f20 := ⟨Try.f63.name, by decide, Try.func63.trans (congrArg some (by kernel_rfl))⟩
  f21 := ⟨Try.f64.name, by decide, Try.func64.trans (congrArg some (by kernel_rfl))⟩
  f22 := ⟨Try.f65.name, by decide, Try.func65.trans (congrArg some (by kernel_rfl))⟩
  f23 := ⟨Try.f66.name, by decide, Try.func66.trans (congrArg some (by kernel_rfl))⟩
  f24 := ⟨Try.f67.name, by decide, Try.func67.trans (congrArg some (by kernel_rfl))⟩
  f25 := ⟨Try.f68.name, by decide, Try.func68.trans (congrArg some (by kernel_rfl))⟩
  f26 := ⟨Try.f69.name, by decide, Try.func69.trans (congrArg some (by kernel_rfl))⟩
  f27 := ⟨Try.f70.name, by decide, Try.func70.trans (congrArg some (by kernel_rfl))⟩
  f28 := Try.func71.trans (congrArg some (by kernel_rfl))
  f29 := Try.func72.trans (congrArg some (by kernel_rfl))
  f46 := ⟨Try.f83.name, by decide, Try.func83.trans (congrArg some (by kernel_rfl))⟩
  f47 := Try.func84.trans (congrArg some (by kernel_rfl))
  f48 := Try.func85.trans (congrArg some (by kernel_rfl))
  f49 := ⟨Try.f86.name, by decide, Try.func86.trans (congrArg some (by kernel_rfl))⟩
  f50 := ⟨Try.f87.name, by decide, Try.func87.trans (congrArg some (by kernel_rfl))⟩
  f57 := ⟨Try.f91.name, by decide, Try.func91.trans (congrArg some (by kernel_rfl))⟩
  t0 := Try.underlying0
  a0 := Try.isAgg0
  z0 := Try.sizeOf0
  v0 := Try.zeroValue0
  t3 := Try.underlying3
  a3 := Try.isAgg3
  z3 := Try.sizeOf3
  v3 := Try.zeroValue3
  t4 := Try.underlying4
  a4 := Try.isAgg4
  z4 := Try.sizeOf4
  v4 := Try.zeroValue4
  t5 := Try.underlying5
  a5 := Try.isAgg5
  z5 := Try.sizeOf5
  v5 := Try.zeroValue5
  t9 := Try.underlying9
  a9 := Try.isAgg9
  z9 := Try.sizeOf9
  v9 := Try.zeroValue9
  t22 := Try.underlying25
  a22 := Try.isAgg25
  z22 := Try.sizeOf25
  v22 := Try.zeroValue25
  t25 := Try.underlying93
  a25 := Try.isAgg93
  z25 := Try.sizeOf93
  v25 := Try.zeroValue93
  t39 := Try.underlying102
  a39 := Try.isAgg102
  z39 := Try.sizeOf102
  v39 := Try.zeroValue102
  t45 := Try.underlying112
  a45 := Try.isAgg112
  z45 := Try.sizeOf112
  v45 := Try.zeroValue112
  t46 := Try.underlying113
  a46 := Try.isAgg113
  z46 := Try.sizeOf113
  v46 := Try.zeroValue113
  t50 := Try.underlying117
  a50 := Try.isAgg117
  z50 := Try.sizeOf117
  v50 := Try.zeroValue117
  t53 := Try.underlying52
  a53 := Try.isAgg52
  z53 := Try.sizeOf52
  v53 := Try.zeroValue52
  t55 := Try.underlying51
  a55 := Try.isAgg51
  z55 := Try.sizeOf51
  v55 := Try.zeroValue51
  t66 := Try.underlying129
  a66 := Try.isAgg129
  z66 := Try.sizeOf129
  v66 := Try.zeroValue129
  t70 := Try.underlying132
  a70 := Try.isAgg132
  z70 := Try.sizeOf132
  v70 := Try.zeroValue132
  t76 := Try.underlying136
  a76 := Try.isAgg136
  z76 := Try.sizeOf136
  v76 := Try.zeroValue136
  t77 := Try.underlying137
  a77 := Try.isAgg137
  z77 := Try.sizeOf137
  v77 := Try.zeroValue137 }
/-- a list is cloned -/
theorem clone_any (lo : Nat) (v : Value) (L : List (Int × Int)) (hL : L.length ≤ 1048576) (w : World) (H : RL w lo v L) :
    Calls Try.prog 42 #[v] w fun e w' => ∃ v', e = .returned v' ∧ OR w' w.heap.size v' L ∧ Below w.heap.size w w' := by
  rcases H with ⟨rfl, rfl⟩ | ⟨g, o, c, rfl, hc, l0, lg, h⟩
  · refine (AnyE.slices_Clone_nil cloneR 0 0 w).mono ?_
    rintro e w' ⟨rfl, rfl⟩
    exact ⟨_, rfl, ol_none _ _ _ _ _, Below.refl _ _⟩
  · obtain ⟨i0, hi, hz0, hz1, hz2⟩ := infoR
    refine (AnyE.slices_Clone cloneR i0 _ 2 16 hi hz0 hz1 hz2 rfl (by decide) Try.sizeOf30 g o L.length c (L.flatMap eR) w (flat_len eR_len L) (by unfold maxLen; omega) (by omega) (fun j u hu => ?_) (fun u hu => ?_)).mono ?_
    · have jl : j < L.length * 2 := by rw [← flat_len eR_len L]; exact (List.getElem?_eq_some_iff.1 hu).1
      have i1 : j / 2 < L.length := by omega
      have e : j = j / 2 * 2 + j % 2 := by omega
      have q := flat_get eR_len L (j / 2) i1 (j % 2) (by omega)
      rw [← e, hu] at q
      have c := h (j / 2) i1 (j % 2) (by omega)
      rw [Nat.add_assoc, ← e, ← q] at c
      exact c
    · obtain ⟨x, _, hx⟩ := List.mem_flatMap.1 hu
      exact eR_one x u hx
    · rintro e w' ⟨v', rfl, ho, _, hb⟩
      exact ⟨v', rfl, ho, hb⟩

theorem isnan_any (x : Int) (w : World) : Calls Try.prog 56 #[.int .i64 x] w fun e w' => e = .returned (.bool false) ∧ w' = w := by
  have d : (x != x) = false := by simp
  go_enter Try.func56, Try.ntmps56
  go_wp2_with fail
  go_ret
  exact ⟨rfl, rfl⟩
/-- the sign of a comparison -/
def cmpI (x y : Int) : Int := if x < y then -1 else if y < x then 1 else 0
theorem compare_any (x y : Int) (w : World) : Calls Try.prog 45 #[.int .i64 x, .int .i64 y] w fun e w' => e = .returned (.int .i64 (cmpI x y)) ∧ w' = w := by
  have NC : Hid (∀ z W, _) := fun z W => isnan_any z W
  unfold cmpI
  by_cases c : x < y
  · have d1 : decide (x < y) = true := by simp [c]
    rw [if_pos c]
    go_enter Try.func45, Try.ntmps45
    go_wp2_with (go_at_call 56; refine Calls.mono (NC.out _ _) ?_; rintro e w' ⟨rfl, rfl⟩)
    go_ret
    exact ⟨rfl, rfl⟩
  · have d1 : decide (x < y) = false := by simp; omega
    rw [if_neg c]
    by_cases d : y < x
    · have d2 : decide (y < x) = true := by simp [d]
      rw [if_pos d]
      go_enter Try.func45, Try.ntmps45
      go_wp2_with (go_at_call 56; refine Calls.mono (NC.out _ _) ?_; rintro e w' ⟨rfl, rfl⟩)
      go_ret
      exact ⟨rfl, rfl⟩
    · have d2 : decide (y < x) = false := by simp; omega
      rw [if_neg d]
      go_enter Try.func45, Try.ntmps45
      go_wp2_with (go_at_call 56; refine Calls.mono (NC.out _ _) ?_; rintro e w' ⟨rfl, rfl⟩)
      go_ret
      exact ⟨rfl, rfl⟩
theorem less_is (x y : Int × Int) : ltOf (fun x y : Int × Int => cmpI x.1 y.1) x y = decide (x.1 < y.1) := by
  unfold ltOf cmpI
  by_cases h1 : x.1 < y.1
  · simp [h1]
  · by_cases h2 : y.1 < x.1 <;> simp [h1, h2]
theorem less_swo : SWO (ltOf fun x y : Int × Int => cmpI x.1 y.1) where
  irrefl x := by rw [less_is]; simp
  trans x y z h1 h2 := by rw [less_is] at *; simp at *; omega
  ntrans x y z h1 h2 := by rw [less_is] at *; simp at *; omega
set_option maxHeartbeats 1000000 in
theorem closure_any (x y : Int × Int) (W : World) : Calls Try.prog 44 #[.agg #[.int .i64 x.1, .int .i64 x.2], .agg #[.int .i64 y.1, .int .i64 y.2]] W fun e w' => e = .returned (.int .i64 (cmpI x.1 y.1)) ∧ ∃ q os', w' = grow (W.drewN q) os' := by
  have hcon : Hid (∀ W', _) := fun W' => compare_any x.1 y.1 W'
  obtain ⟨x1, x2⟩ := x
  obtain ⟨y1, y2⟩ := y
  simp only at hcon ⊢
  generalize cmpI x1 y1 = r at hcon ⊢
  go_enter Try.func44, Try.ntmps44
  go_wp2_with (go_at_call 45; refine Calls.mono (hcon.out _) ?_; rintro e w' ⟨rfl, rfl⟩)
  go_ret
  exact ⟨rfl, 0, _, by rw [alloc_eq_grow, alloc_eq_grow, grow_grow]; rfl⟩
theorem heap_modify_other (w : World) (blk : Nat) (f : Array Value → Array Value) (j : Nat) (h : j ≠ blk) : (mapBlock w blk f).heap[j]? = w.heap[j]? := by
  simp only [mapBlock, Array.getElem?_modify]
  rw [if_neg (Ne.symm h)]
/-- a list that the caller owns is sorted by where its ranges begin -/
theorem sort_any (base : Nat) (v : Value) (L : List (Int × Int)) (hL : L.length ≤ 1048576) (w : World) (O : OR w base v L) (hb : base ≤ w.heap.size) :
    Calls Try.prog 43 #[v, .func (.func 44) #[] #[]] w fun e w' => e = .returned (.tuple #[]) ∧ ∃ S, S.Perm L ∧ (S.Pairwise fun a b => a.1 ≤ b.1) ∧ RL w' base v S ∧ Below base w w' := by
  have O2 := O
  obtain ⟨hl', ⟨hv, h0⟩ | ⟨g, cap, cur, hv, hbb, hblk, hcap, hmx, hsz, htk⟩⟩ := O
  · obtain rfl : L = [] := List.eq_nil_of_length_eq_zero h0
    subst hv
    have := AnyF.slices_SortFunc_none { sortR with } none 0 (.func (.func 44) #[] #[]) w
    change Calls Try.prog 43 _ _ _ at this
    refine this.mono ?_
    rintro e w' ⟨rfl, rfl⟩
    exact ⟨rfl, [], List.Perm.refl _, List.Pairwise.nil, Or.inl ⟨rfl, rfl⟩, Below.refl _ _⟩
  · subst hv
    have glt := blk_lt hblk
    have hH : HoldsK eR 2 w g 0 L.toArray := by
      intro j hj
      rw [size_flatK] at hj
      rw [get_flatK _ _ _ _ hj]
      have hj' : j < L.length * 2 := by simpa using hj
      refine ⟨?_, Go.Joins.unfrozen_of_block hblk _⟩
      have hc := World.ownsRow.cells (g := g) O2 rfl j
      have i1 : j / 2 < L.length := by omega
      have q := flat_get eR_len L (j / 2) i1 (j % 2) (by omega)
      have e : j / 2 * 2 + j % 2 = j := by omega
      rw [e] at q
      have lt2 : j % 2 < (eR L[j / 2]).length := by rw [eR_len]; omega
      rw [List.getElem?_eq_getElem lt2] at q
      have := hc _ q
      rw [Addr.add_mid, Nat.zero_add] at this
      rw [Nat.zero_add, this]
      have e2 : L.toArray[j / 2]! = L[j / 2] := by simp [i1]
      rw [e2]
      have e3 : (eR L[j / 2])[j % 2]! = (eR L[j / 2])[j % 2] := by rw [getElem!_pos (eR L[j / 2]) (j % 2) lt2]
      rw [e3]; rfl
    have eg := enters_of Try.func44 (by kernel_rfl) rfl
    have con := AnyQ.slices_SortFunc sortR 2 Try.isAgg30 Try.sizeOf30 eR eR_len eR_one (fun x y => cmpI x.1 y.1) less_swo 44 #[] g 0 cap L.toArray w eg (fun _ _ _ _ x y => closure_any x y _) hH glt (by simp; omega)
    change Calls Try.prog 43 _ _ _ at con
    rw [show L.toArray.size = L.length by simp] at con
    refine con.mono ?_
    rintro e w' ⟨rfl, d', n, os, hp, hs, rfl⟩
    obtain ⟨p1, p2, p3⟩ := hp
    have s1 : d'.size = L.length := by rw [p1]; simp
    have pm : d'.toList.Perm L := by
      have e1 : (d'.extract 0 L.length).toList = d'.toList := by rw [← s1]; simp
      have e2 : (L.toArray.extract 0 L.length).toList = L := by simp
      rw [e1, e2] at p3
      exact p3
    refine ⟨rfl, d'.toList, pm, ?_, ?_, ?_⟩
    · rw [List.pairwise_iff_getElem]
      intro i j hi hj hij
      have hi' : i < d'.size := by simpa using hi
      have hj' : j < d'.size := by simpa using hj
      have q := hs i j (Nat.zero_le _) hij (by rw [← s1]; exact hj')
      rw [less_is] at q
      rw [getElem!_pos d' j hj', getElem!_pos d' i hi'] at q
      simp only [decide_eq_false_iff_not] at q
      simp only [Array.getElem_toList]
      omega
    · have hh := holdsK_sortWorldK eR 2 w g 0 n L.toArray d' os glt hH p1
      have sl := lt_sortWorldK eR 2 w g 0 n d' os glt
      refine Or.inr ⟨g, 0, cap, by simp [s1], by simp [s1]; omega, hbb, sl, fun i hi j hj => ?_⟩
      have hi' : i < d'.size := by simpa using hi
      have q := (HoldsK.cell hh hi' hj).1
      rw [q, getElem!_pos d' i hi']
      have lt2 : j < (eR d'[i]).length := by rw [eR_len]; exact hj
      rw [getElem!_pos (eR d'[i]) j lt2]
      simp only [Array.getElem_toList]
      rw [List.getElem?_eq_getElem lt2]
    · refine ⟨rfl, rfl, rfl, ?_, fun j hj => ?_⟩
      · simp [sortWorldK, putRowK, putRow, mapBlock, grow, Sort.ahead]
      · have jl : j < w.heap.size := Nat.lt_of_lt_of_le hj hb
        have : (grow (putRowK eR 2 (Sort.ahead w n) g 0 d') os).heap[j]? = (putRowK eR 2 (Sort.ahead w n) g 0 d').heap[j]? := heap_grow_old _ _ (by simp [putRowK, putRow, mapBlock, Sort.ahead]; exact jl)
        show (grow (putRowK eR 2 (Sort.ahead w n) g 0 d') os).heap[j]? = _
        rw [this]
        exact heap_modify_other _ _ _ _ (by omega)
end Go.Proofs.Ytpfcpmhpekidkaa.Bm
