/- The contract of ram's Copy. -/
import Derived.Test.YtdfalincdgdlcaaR12
namespace Go.Proofs.Ytdfalincdgdlcaa
open Go.ChangeShapes Go.WideShapes Go.ChangeAt Go.RowKit Go.Maps
set_option linter.unusedSimpArgs false
set_option linter.unusedVariables false

/-- a frame has another one's bytes -/
def mcopy (M : Int → Int) (to_ from_ : Int) : Int → Int := fun t => if to_ * 4096 ≤ t ∧ t < to_ * 4096 + 4096 then M (t - to_ * 4096 + from_ * 4096) else M t

theorem pageArr_one (c : Nat → Int) : (pageArr c).all (·.oneCell') = true := by
  rw [Array.all_eq_true_iff_forall_mem]
  intro v hv
  simp only [pageArr, List.mem_toArray, List.mem_map] at hv
  obtain ⟨b, _, rfl⟩ := hv
  rfl

/-- a new block with a page's bytes -/
theorem own_block (w : World) (zs : Array Value) (hz : zs.size = 4096) {c : Nat → Int} (hc : ∀ i, 0 ≤ c i ∧ c i < 256) :
    ∃ W, (w.alloc (.cells zs 63)).setRow w.heap.size (pageArr c) = W ∧ w.grownBy W none ∧ w.heap.size < W.heap.size ∧ Page W w.heap.size c ∧ (w.alloc (.cells zs 63)).heap[w.heap.size]? = some (.cells zs 63 (0, 0)) := by
  have hsz : (w.alloc (.cells zs 63)).heap.size = w.heap.size + 1 := World.size_alloc ..
  have hh : (w.alloc (.cells zs 63)).heap[w.heap.size]? = some (.cells zs 63 (0, 0)) := (MapKept.heap_alloc w _).1
  refine ⟨_, rfl, ⟨rfl, rfl, rfl, by rw [setRow_size, hsz]; omega, ?_⟩, by rw [setRow_size, hsz]; omega, ?_, hh⟩
  · intro k hk _
    rw [setRow_other _ _ _ _ (by omega)]
    exact Below.heap_alloc w _ k hk
  · intro i hi
    have hb := setRow_heap _ _ _ (pageArr c) _ _ hh
    refine ⟨?_, ?_⟩
    · rw [cell_setRow_same _ _ _ _ _ _ _ hh]; exact pageArr_get hc hi
    · show World.frozen? _ ⟨w.heap.size, i, none⟩ = false
      unfold World.frozen?
      rw [show (⟨w.heap.size, i, none⟩ : Addr).block = w.heap.size from rfl, hb]
      simp

/-- a memory whose map has got a new page for frame k -/
theorem IsRam.replaced {w w' : World} {B rb mb n N : Nat} {has : Int → Bool} {F : Int} {M M' : Int → Int} {S : List Nat} {pg : Int → Option Nat} {k : Int}
    (q1 : B ≤ rb) (q2 : B ≤ mb) (hk : HasOk w rb S has) (q3 : mb ∉ S) (q4 : w.cell? ⟨rb, 0, none⟩ = some (.int .i64 F)) (q5 : w.cell? ⟨rb, 2, none⟩ = some (.map (some mb)))
    (hmb : mb < w.heap.size)
    (hp : ∀ k b, pg k = some b → B ≤ b ∧ b < w.heap.size ∧ b ∉ S ∧ b ≠ mb ∧ Page w b (fun i => M (k * 4096 + i)))
    (hi : ∀ k k' b, pg k = some b → pg k' = some b → k = k') (hz : ∀ k, pg k = none → ∀ i : Nat, i < 4096 → M (k * 4096 + i) = 0)
    (hm' : Mem w' mb n (put pg k (some N))) (hg : w.grownBy w' (some mb)) (hN : w.heap.size ≤ N) (hN2 : N < w'.heap.size) (hpN : Page w' N (fun i => M' (k * 4096 + i)))
    (hM : ∀ (j : Int) (i : Nat), j ≠ k → i < 4096 → M' (j * 4096 + i) = M (j * 4096 + i)) (hb : ∀ t, 0 ≤ M' t ∧ M' t < 256) : IsRam w' B rb has F M' n ∧ Below B w w' := by
  have hrb := hk.2.1 rb hk.1
  have hne : ∀ s, s ∈ S → some s ≠ some mb := fun s hs e => by cases e; exact q3 hs
  have hnerb := hne rb hk.1
  refine ⟨⟨mb, S, put pg k (some N), q1, q2, hk.keep (fun s hs => hg.block s (hk.2.1 s hs) (hne s hs)) hg.size, q3, ?_, ?_, hm', ?_, ?_, ?_, hb⟩, below_of_grown hg q2 (by omega)⟩
  · rw [World.cell?_of_block (w := w) (a := ⟨rb, 0, none⟩) (hg.block rb hrb hnerb)]; exact q4
  · rw [World.cell?_of_block (w := w) (a := ⟨rb, 2, none⟩) (hg.block rb hrb hnerb)]; exact q5
  · intro j b hjb
    unfold put at hjb
    by_cases c : j = k
    · rw [if_pos c] at hjb
      cases hjb
      refine ⟨by omega, hN2, fun hs => by have := hk.2.1 _ hs; omega, fun e => by omega, ?_⟩
      rw [c]; exact hpN
    · rw [if_neg c] at hjb
      obtain ⟨r1, r2, r3, r4, r5⟩ := hp j b hjb
      exact ⟨r1, Nat.lt_of_lt_of_le r2 hg.size, r3, r4, (r5.of_block (hg.block b r2 (by intro e; cases e; exact r4 rfl))).congr fun i hi' => (hM j i c hi').symm⟩
  · intro j j' b hjb hjb'
    unfold put at hjb hjb'
    by_cases c : j = k
    · by_cases c' : j' = k
      · rw [c, c']
      · rw [if_pos c] at hjb; rw [if_neg c'] at hjb'
        cases hjb
        have := (hp j' _ hjb').2.1; omega
    · by_cases c' : j' = k
      · rw [if_neg c] at hjb; rw [if_pos c'] at hjb'
        cases hjb'
        have := (hp j _ hjb).2.1; omega
      · rw [if_neg c] at hjb; rw [if_neg c'] at hjb'
        exact hi j j' b hjb hjb'
  · intro j hj i hi'
    unfold put at hj
    by_cases c : j = k
    · rw [if_pos c] at hj; cases hj
    · rw [if_neg c] at hj
      rw [hM j i c hi']; exact hz j hj i hi'

theorem zero_size : (Array.replicate 4096 (Value.int .u8 0)).size = 4096 := Array.size_replicate
set_option maxHeartbeats 1000000 in
theorem copy_ok {w : World} {B rb : Nat} {has : Int → Bool} {F : Int} {M : Int → Int} {n : Nat} (h : IsRam w B rb has F M n) (hn : n < maxLen) (to_ from_ : Int) (k0 : -9223372036854775808 ≤ to_) (k1 : to_ ≤ 9223372036854775807)
    (l0 : -9223372036854775808 ≤ from_) (l1 : from_ ≤ 9223372036854775807) (ht : has to_ = true) (hf : has from_ = true) :
    Calls Try.prog 16 #[.pointer (some ⟨rb, 0, none⟩), .int .i64 to_, .int .i64 from_] w fun e w' => e = .returned (.int .i64 0) ∧ IsRam w' B rb has F (mcopy M to_ from_) (n + 1) ∧ Below B w w' := by
  obtain ⟨S0, hk0⟩ := h.hasOk
  have hc1 : Hid (∀ u : Unit, Calls Try.prog 25 #[.pointer (some ⟨rb, 0, none⟩), .int .i64 to_] w fun e w2 => e = .returned (.bool true) ∧ w.grownBy w2 none) := by
    intro _; rw [← ht]; exact hk0.2.2 w (fun _ _ => rfl) (Nat.le_refl _) to_
  have hc2 : Hid (∀ w1 : World, w.grownBy w1 none → Calls Try.prog 25 #[.pointer (some ⟨rb, 0, none⟩), .int .i64 from_] w1 fun e w2 => e = .returned (.bool true) ∧ w.grownBy w2 none) := by
    intro w1 hg
    rw [← hf]
    refine (hk0.2.2 w1 (fun s hs => hg.block s (hk0.2.1 s hs) (by simp)) hg.size from_).mono ?_
    rintro e w2 ⟨he, hg2⟩
    exact ⟨he, grown_trans hg hg2⟩
  have HI : Hid (IsRam w B rb has F M n) := h
  clear h hk0 ht hf
  go_enter Try.func16, Try.ntmps16
  go_wp2_with fail
  refine (hc1.out ()).mono ?_
  rintro e w0 ⟨rfl, hg0⟩
  go_wp2_with fail
  refine (hc2.out _ hg0).mono ?_
  rintro e w1 ⟨rfl, hg1⟩
  obtain ⟨mb, S, pg, q1, q2, hk, q3, q4, q5, hm, hp, hi, hz, hb⟩ := HI.out.grown hg1
  have hB := below_of_grown0 hg1 HI.out.size
  have hl := hm.look l0 l1
  cases hpk : pg from_ with
  | none =>
    rw [hpk] at hl
    have hl' : (Instr.lookup 52 (.map (some mb)) (.int .i64 from_) false).run Try.prog w1 = .ok (.pointer none) w1 := hl
    have hd : ∃ w2, (∀ ty, (Builtin.delete_ #[52, 3] ty #[.map (some mb), .int .i64 to_]).run Try.prog w1 = .ok (.tuple #[]) w2) ∧ IsRam w2 B rb has F (mcopy M to_ from_) (n + 1) ∧ Below B w1 w2 := by
      obtain ⟨w2, hr, hm2, hg2⟩ := hm.drop k0 k1 0
      have hd := IsRam.dropped q1 q2 hk q3 q4 q5 hp hi hz hb hm2 hg2
      have e : mcopy M to_ from_ = mzero M to_ := by
        funext t
        unfold mcopy mzero
        by_cases c : to_ * 4096 ≤ t ∧ t < to_ * 4096 + 4096
        · rw [if_pos c, if_pos c]
          have := hz from_ hpk (t - to_ * 4096).toNat (by omega)
          rw [show t - to_ * 4096 + from_ * 4096 = from_ * 4096 + (((t - to_ * 4096).toNat : Nat) : Int) by omega]; exact this
        · rw [if_neg c, if_neg c]
      exact ⟨w2, fun ty => hr, by rw [e]; exact hd.1.mono (by omega), hd.2⟩
    obtain ⟨w2, hdel, hI2, hb2⟩ := hd
    have HI2 : Hid (IsRam w2 B rb has F (mcopy M to_ from_) (n + 1) ∧ Below B w w2) := ⟨hI2, hB.trans hb2⟩
    clear hI2 hb2 hp hi hz hb hm hk q1 q2 q3 q4 hg0 hg1 hB hpk hl
    go_wp2_with fail
    go_ret
    exact ⟨rfl, HI2.out⟩
  | some b =>
    rw [hpk] at hl
    have hl' : (Instr.lookup 52 (.map (some mb)) (.int .i64 from_) false).run Try.prog w1 = .ok (.pointer (some ⟨b, 0, none⟩)) w1 := hl
    obtain ⟨r1, r2, r3, r4, r5⟩ := hp from_ b hpk
    have hlv : Hid ((loadVar 63 ⟨b, 0, none⟩).run Try.prog w1 = .ok (.agg (pageArr fun i => M (from_ * 4096 + i))) w1) := load_page r5 (fun i => hb _)
    obtain ⟨zs, hzr, hzs⟩ : ∃ zs : Array Value, (∀ W : World, (zeroValue 63).run Try.prog W = .ok (.agg zs) W) ∧ zs.size = 4096 := ⟨_, zero_run, zero_size⟩
    obtain ⟨W, hW, hgW, hszW, hpW, hhW⟩ := own_block w1 zs hzs (c := fun i => M (from_ * 4096 + i)) (fun i => hb _)
    have hrb := hk.2.1 rb hk.1
    have hcW : W.cell? ⟨rb, 2, none⟩ = some (.map (some mb)) := by rw [World.cell?_of_block (w := w1) (a := ⟨rb, 2, none⟩) (hgW.block rb hrb (by simp))]; exact q5
    have hcA : (w1.alloc (.cells zs 63)).cell? ⟨rb, 2, none⟩ = some (.map (some mb)) := by rw [World.cell?_alloc_past _ _ _ hrb]; exact q5
    obtain ⟨w4, hst, hm4, hg4⟩ := (hm.kept hgW (by simp)).store hn k0 k1 w1.heap.size
    have hst' : (Instr.mapUpdate 52 (.map (some mb)) (.int .i64 to_) (.pointer (some ⟨w1.heap.size, 0, none⟩))).run Try.prog W = .ok () w4 := hst
    have hg14 : w1.grownBy w4 (some mb) := ⟨hg4.os.trans hgW.os, hg4.tape.trans hgW.tape, hg4.output.trans hgW.output, Nat.le_trans hgW.size hg4.size, fun j hj hne => (hg4.block j (Nat.lt_of_lt_of_le hj hgW.size) hne).trans (hgW.block j hj (by simp))⟩
    have hfin := IsRam.replaced (N := w1.heap.size) (M' := mcopy M to_ from_) q1 q2 hk q3 q4 q5 hm.lt hp hi hz hm4 hg14 (Nat.le_refl _) (Nat.lt_of_lt_of_le hszW hg4.size)
      ((hpW.of_block (hg4.block _ hszW (by intro e; cases e; have := hm.lt; omega))).congr fun i hi' => by unfold mcopy; rw [if_pos (by omega), show to_ * 4096 + (i : Int) - to_ * 4096 + from_ * 4096 = from_ * 4096 + i by omega])
      (fun j i hj hi' => by unfold mcopy; rw [if_neg (by omega)]) (fun t => by unfold mcopy; split <;> exact hb _)
    have HI2 : Hid (IsRam w4 B rb has F (mcopy M to_ from_) (n + 1) ∧ Below B w w4) := ⟨hfin.1, hB.trans hfin.2⟩
    have HH : Hid ((w1.alloc (.cells zs 63)).heap[w1.heap.size]? = some (.cells zs 63 (0, 0))) := hhW
    have HZ : Hid (zs.size = 4096) := hzs
    obtain ⟨arr, harr⟩ : ∃ arr, (pageArr fun i => M (from_ * 4096 + i)) = arr := ⟨_, rfl⟩
    have HA : Hid (arr.size = 4096 ∧ arr.all (·.oneCell') = true) := ⟨by rw [← harr]; exact pageArr_size _, by rw [← harr]; exact pageArr_one _⟩
    rw [harr] at hlv hW
    clear hfin hg14 hm4 hg4 hst hpW hszW hgW hp hi hz hb hm hk q1 q2 q3 q4 hg0 hg1 hB hpk hl r1 r2 r3 r4 r5 harr hhW hzs
    go_wp2_with (first | (refine wpList_load_page _ rfl rfl b rfl arr hlv.out ?_) | (refine wpList_store_row rfl 63 _ _ rfl w1.heap.size arr rfl rfl 63 zs HH.out ?_ ?_ HA.out.2 ?_; rw [HA.out.1]; exact page_info; rw [HZ.out, HA.out.1]))
    go_ret
    exact ⟨rfl, HI2.out⟩
theorem cp_at {B rb : Nat} {has : Int → Bool} {F : Int} (M : Int → Int) (n : Nat) (to_ from_ : Int) (hn : n < maxLen) (k0 : -9223372036854775808 ≤ to_) (k1 : to_ ≤ 9223372036854775807)
    (l0 : -9223372036854775808 ≤ from_) (l1 : from_ ≤ 9223372036854775807) (ht : has to_ = true) (hf : has from_ = true) :
    Hid (∀ w : World, IsRam w B rb has F M n → Calls Try.prog 16 #[.pointer (some ⟨rb, 0, none⟩), .int .i64 to_, .int .i64 from_] w fun e w' => e = .returned (.int .i64 0) ∧ IsRam w' B rb has F (mcopy M to_ from_) (n + 1) ∧ Below B w w') :=
  fun w h => copy_ok h hn to_ from_ k0 k1 l0 l1 ht hf
end Go.Proofs.Ytdfalincdgdlcaa
