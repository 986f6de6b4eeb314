/- Tags: the document's Drop; the program's tags and the document's list. -/
import Derived.Test.YtbdakoijhpobdaaK6
import Derived.Maps.AppendAt
import Derived.Laws.OwnMore
import Derived.OwnWalk
namespace Go.Proofs.Ytbdakoijhpobdaa
open Go.ChangeShapes Go.WideShapes Go.ChangeAt Go.RowKit Go.Maps
set_option linter.unusedSimpArgs false
set_option linter.unusedVariables false

def drop1 (s : Int) (b : Gv) : Gv := if b.sp = s then ⟨b.sp, false⟩ else b
def dropV (B : List Gv) (s : Int) : List Gv := B.map (drop1 s)
theorem take_next (B : List Gv) (m : Nat) (h : m < B.length) : B.take (m + 1) = B.take m ++ [B.getD m Gv.zero] := by
  rw [List.take_add_one, List.getElem?_eq_getElem h]
  have : B.getD m Gv.zero = B[m] := by rw [List.getD, List.getElem?_eq_getElem h]; rfl
  rw [this]; rfl
theorem dropV_next (B : List Gv) (s : Int) (m : Nat) (h : m < B.length) : dropV (B.take (m + 1)) s = dropV (B.take m) s ++ [drop1 s (B.getD m Gv.zero)] := by unfold dropV; rw [take_next B m h, List.map_append]; rfl
theorem dropV_len (B : List Gv) (s : Int) (m : Nat) : (dropV (B.take m) s).length ≤ B.length := by unfold dropV; rw [List.length_map, List.length_take]; omega
theorem results_one {fn : Func} {p : Tmp} {t : TypeId} (h : fn.results = #[.cell p t]) (tmps : Array Value) (P : Program) (w : World) (a : Addr) (x : Value)
    (ha : tmps.getD p undef = .pointer (some a)) (hx : (loadVar t a).run P w = .ok x w) : (results fn tmps).run P w = .ok x w := by
  simp only [results, h]
  have e1 : ∀ W : World, (asAddr (Value.pointer (some a))).run P W = .ok a W := fun _ => rfl
  simp at ha
  simp [Sem.run_bind, Result.andThen, ha, e1, hx]

set_option maxHeartbeats 4000000 in
theorem rdrop_any (base : Nat) (m g : Int) (p : Option Addr) (c : Nat) (B : List Gv) (hB : B.length ≤ 100) (s : Int) (w : World) (h : IsGv w base p B) :
    Calls Try.prog 11 #[.agg #[.int .i64 m, .int .i64 g, .slice p B.length c], .int .i64 s] w fun e w' => ∃ p' c', e = .returned (.agg #[.int .i64 m, .int .i64 g, .slice p' (dropV B s).length c']) ∧ IsGv w' w.heap.size p' (dropV B s) ∧ Below w.heap.size w w' := by
  obtain ⟨i0, hi, hz0, hz1, hz2⟩ := info5 gv_info5
  have HB : Hid (IsGv w base p B) := h
  clear h
  obtain ⟨n, hn⟩ : ∃ n, B.length = n := ⟨_, rfl⟩
  have HN : Hid (B.length = n) := hn
  rw [hn] at hB ⊢
  clear hn
  go_enter Try.func11, Try.ntmps11
  go_wp2_with fail
  go_loopw [5, 12] (fun v x W => ∃ k : Nat, k ≤ n ∧ x = .int .i64 k ∧ Hid (OwnV W (w.heap.size + 2) v (dropV (B.take k) s)) ∧ Hid (Below w.heap.size w W) ∧ Hid (W.heap[w.heap.size]? = some (.cells #[.int .i64 m, .int .i64 g, .slice p n c] 30 (0, 0))) ∧ Hid (W.heap[w.heap.size + 1]? = some (.cells #[.int .i64 0, .int .i64 0, .slice none 0 0] 30 (0, 0)))) (fun _ x _ => n - (intOf x).toNat)
  case atStart => exact ⟨0, by omega, rfl, (by have := own_start ((w.alloc (.cells #[.int .i64 m, .int .i64 g, .slice p n c] 30)).alloc (.cells #[.int .i64 0, .int .i64 0, .slice none 0 0] 30)); simp only [World.size_alloc] at this; exact this), below_new (below_new (Go.Joins.below_alloc1 _ _) _) _, ((Go.Joins.below_alloc2 _ _ _).block _ (by rw [World.size_alloc]; omega)).trans (own1 w _), ((Go.Joins.below_alloc1 _ _).block _ (by rw [World.size_alloc, World.size_alloc]; omega)).trans (by have := own1 (w.alloc (.cells #[.int .i64 m, .int .i64 g, .slice p n c] 30)) (.cells #[.int .i64 0, .int .i64 0, .slice none 0 0] 30); rw [World.size_alloc] at this; exact this)⟩
  case round =>
    obtain ⟨k, hk, rfl, O, Bl, X, Z⟩ := hrel
    have lz : w.heap.size + 1 < wr.heap.size := blk_lt Z.out
    by_cases hlt : k < n
    · have hd : decide ((k : Int) < (n : Int)) = true := by simp; omega
      obtain ⟨g', rfl, g1, g2, gc⟩ := (HB.out.below Bl.out) k (by rw [HN.out]; exact hlt)
      have NX : Hid (dropV (B.take (k + 1)) s = dropV (B.take k) s ++ [drop1 s (B.getD k Gv.zero)]) := dropV_next B s k (by rw [HN.out]; exact hlt)
      have AL : Hid ((dropV (B.take k) s).length ≤ 100) := Nat.le_trans (dropV_len B s k) (by rw [HN.out]; exact hB)
      generalize B.getD k Gv.zero = bx at gc NX
      obtain ⟨bs, bh⟩ := bx
      have y0 : wr.cell? ⟨g', k * 2, none⟩ = some (.int .i64 bs) := gc 0 _ rfl
      have y1 : wr.cell? ⟨g', k * 2 + 1, none⟩ = some (.bool bh) := gc 1 _ rfl
      clear gc
      by_cases ci : bs = s
      · have e1 : (bs == s) = true := by simp [ci]
        have N2 : Hid (dropV (B.take (k + 1)) s = dropV (B.take k) s ++ [Gv.mk bs false]) := by show _ = _; rw [NX.out]; unfold drop1; rw [if_pos ci]
        clear ci NX
        generalize dropV (B.take k) s = L at O AL N2
        have OW : Hid (((wr.alloc (.cells #[.int .i64 bs, .bool false] 41)).alloc (.cells #[.int .i64 bs, .bool false] 41)).ownsRow (w.heap.size + 2) 41 2 u5 L.length (L.flatMap Gv.enc)) := own_keep O.out (Go.Joins.below_alloc2 _ _ _)
        have NW : Hid (∀ j x, ([.int .i64 bs, .bool false] : List Value)[j]? = some x → ((wr.alloc (.cells #[.int .i64 bs, .bool false] 41)).alloc (.cells #[.int .i64 bs, .bool false] 41)).cell? ((⟨wr.heap.size + 1, 0, none⟩ : Addr).add j) = some x) := by
          have := news_cells1 (wr.alloc (.cells #[.int .i64 bs, .bool false] 41)) #[.int .i64 bs, .bool false] 41
          simp only [World.size_alloc] at this
          exact this
        have ON : Hid (∀ x ∈ ([.int .i64 bs, .bool false] : List Value), x.oneCell' = true) := by show ∀ x ∈ ([.int .i64 bs, .bool false] : List Value), x.oneCell' = true; simp [Value.oneCell']
        have HZ : Hid (w.heap.size + 2 ≤ ((wr.alloc (.cells #[.int .i64 bs, .bool false] 41)).alloc (.cells #[.int .i64 bs, .bool false] 41)).heap.size) := by show _ ≤ _; rw [World.size_alloc, World.size_alloc]; omega
        have MX : Hid (L.length + 1 ≤ maxLen) := by show _ ≤ _; unfold maxLen; have := AL.out; omega
        have BY : Hid ((L.length + 1) * 16 ≤ 140737488355328) := by show _ ≤ _; have := AL.out; omega
        have BA : Hid (Below w.heap.size w ((wr.alloc (.cells #[.int .i64 bs, .bool false] 41)).alloc (.cells #[.int .i64 bs, .bool false] 41))) := below_new (below_new Bl.out _) _
        have XA : Hid (((wr.alloc (.cells #[.int .i64 bs, .bool false] 41)).alloc (.cells #[.int .i64 bs, .bool false] 41)).heap[w.heap.size]? = some (.cells #[.int .i64 m, .int .i64 g, .slice (some ⟨g', 0, none⟩) n c] 30 (0, 0))) := ((Go.Joins.below_alloc2 _ _ _).block _ (blk_lt X.out)).trans X.out
        have ZA : Hid (((wr.alloc (.cells #[.int .i64 bs, .bool false] 41)).alloc (.cells #[.int .i64 bs, .bool false] 41)).heap[w.heap.size + 1]? = some (.cells #[.int .i64 0, .int .i64 0, .slice none 0 0] 30 (0, 0))) := ((Go.Joins.below_alloc2 _ _ _).block _ (blk_lt Z.out)).trans Z.out
        go_wp2_with (at_builtin; refine wpList_append_own _ rfl _ _ 28 rfl (w.heap.size + 2) 41 i0 zgv 2 16 Try.underlying28 hi hz0 hz1 hz2 rfl (by decide) u5 L.length (L.flatMap Gv.enc) rfl OW.out ⟨wr.heap.size + 1, 0, none⟩ 1 1 ([.int .i64 bs, .bool false] : List Value) rfl rfl NW.out ON.out MX.out BY.out HZ.out ?_; intro v1 a0 hown hg hnil; have O1 : Hid (OwnV a0 (w.heap.size + 2) v1 (L ++ [Gv.mk bs false])) := OwnV.next hown; have B1 : Hid (Below w.heap.size w a0) := BA.out.grown hg BA.out.size (fun j ej => Nat.le_trans (by omega) (own_base OW.out j ej)); have X1 : Hid (a0.heap[w.heap.size]? = some (.cells #[.int .i64 m, .int .i64 g, .slice (some ⟨g', 0, none⟩) n c] 30 (0, 0))) := (hg.block _ (blk_lt XA.out) (fun e => (by have := own_base OW.out w.heap.size e.symm; omega))).trans XA.out; have Z1 : Hid (a0.heap[w.heap.size + 1]? = some (.cells #[.int .i64 0, .int .i64 0, .slice none 0 0] 30 (0, 0))) := (hg.block _ (blk_lt ZA.out) (fun e => (by have := own_base OW.out (w.heap.size + 1) e.symm; omega))).trans ZA.out; clear hown hg hnil OW NW ON HZ MX BY BA XA ZA)
        go_roundw
        case rel => exact ⟨k + 1, by omega, by go_num, (by show OwnV _ _ _ _; rw [N2.out]; exact O1.out), B1, X1, Z1⟩
        case measure => simp [intOf]; omega
      · have e1 : (bs == s) = false := by simp [ci]
        have N2 : Hid (dropV (B.take (k + 1)) s = dropV (B.take k) s ++ [Gv.mk bs bh]) := by show _ = _; rw [NX.out]; unfold drop1; rw [if_neg ci]
        clear ci NX
        generalize dropV (B.take k) s = L at O AL N2
        have OW : Hid (((wr.alloc (.cells #[.int .i64 bs, .bool bh] 41)).alloc (.cells #[.int .i64 bs, .bool bh] 41)).ownsRow (w.heap.size + 2) 41 2 u5 L.length (L.flatMap Gv.enc)) := own_keep O.out (Go.Joins.below_alloc2 _ _ _)
        have NW : Hid (∀ j x, ([.int .i64 bs, .bool bh] : List Value)[j]? = some x → ((wr.alloc (.cells #[.int .i64 bs, .bool bh] 41)).alloc (.cells #[.int .i64 bs, .bool bh] 41)).cell? ((⟨wr.heap.size + 1, 0, none⟩ : Addr).add j) = some x) := by
          have := news_cells1 (wr.alloc (.cells #[.int .i64 bs, .bool bh] 41)) #[.int .i64 bs, .bool bh] 41
          simp only [World.size_alloc] at this
          exact this
        have ON : Hid (∀ x ∈ ([.int .i64 bs, .bool bh] : List Value), x.oneCell' = true) := by show ∀ x ∈ ([.int .i64 bs, .bool bh] : List Value), x.oneCell' = true; simp [Value.oneCell']
        have HZ : Hid (w.heap.size + 2 ≤ ((wr.alloc (.cells #[.int .i64 bs, .bool bh] 41)).alloc (.cells #[.int .i64 bs, .bool bh] 41)).heap.size) := by show _ ≤ _; rw [World.size_alloc, World.size_alloc]; omega
        have MX : Hid (L.length + 1 ≤ maxLen) := by show _ ≤ _; unfold maxLen; have := AL.out; omega
        have BY : Hid ((L.length + 1) * 16 ≤ 140737488355328) := by show _ ≤ _; have := AL.out; omega
        have BA : Hid (Below w.heap.size w ((wr.alloc (.cells #[.int .i64 bs, .bool bh] 41)).alloc (.cells #[.int .i64 bs, .bool bh] 41))) := below_new (below_new Bl.out _) _
        have XA : Hid (((wr.alloc (.cells #[.int .i64 bs, .bool bh] 41)).alloc (.cells #[.int .i64 bs, .bool bh] 41)).heap[w.heap.size]? = some (.cells #[.int .i64 m, .int .i64 g, .slice (some ⟨g', 0, none⟩) n c] 30 (0, 0))) := ((Go.Joins.below_alloc2 _ _ _).block _ (blk_lt X.out)).trans X.out
        have ZA : Hid (((wr.alloc (.cells #[.int .i64 bs, .bool bh] 41)).alloc (.cells #[.int .i64 bs, .bool bh] 41)).heap[w.heap.size + 1]? = some (.cells #[.int .i64 0, .int .i64 0, .slice none 0 0] 30 (0, 0))) := ((Go.Joins.below_alloc2 _ _ _).block _ (blk_lt Z.out)).trans Z.out
        go_wp2_with (at_builtin; refine wpList_append_own _ rfl _ _ 28 rfl (w.heap.size + 2) 41 i0 zgv 2 16 Try.underlying28 hi hz0 hz1 hz2 rfl (by decide) u5 L.length (L.flatMap Gv.enc) rfl OW.out ⟨wr.heap.size + 1, 0, none⟩ 1 1 ([.int .i64 bs, .bool bh] : List Value) rfl rfl NW.out ON.out MX.out BY.out HZ.out ?_; intro v1 a0 hown hg hnil; have O1 : Hid (OwnV a0 (w.heap.size + 2) v1 (L ++ [Gv.mk bs bh])) := OwnV.next hown; have B1 : Hid (Below w.heap.size w a0) := BA.out.grown hg BA.out.size (fun j ej => Nat.le_trans (by omega) (own_base OW.out j ej)); have X1 : Hid (a0.heap[w.heap.size]? = some (.cells #[.int .i64 m, .int .i64 g, .slice (some ⟨g', 0, none⟩) n c] 30 (0, 0))) := (hg.block _ (blk_lt XA.out) (fun e => (by have := own_base OW.out w.heap.size e.symm; omega))).trans XA.out; have Z1 : Hid (a0.heap[w.heap.size + 1]? = some (.cells #[.int .i64 0, .int .i64 0, .slice none 0 0] 30 (0, 0))) := (hg.block _ (blk_lt ZA.out) (fun e => (by have := own_base OW.out (w.heap.size + 1) e.symm; omega))).trans ZA.out; clear hown hg hnil OW NW ON HZ MX BY BA XA ZA)
        go_roundw
        case rel => exact ⟨k + 1, by omega, by go_num, (by show OwnV _ _ _ _; rw [N2.out]; exact O1.out), B1, X1, Z1⟩
        case measure => simp [intOf]; omega
    · obtain rfl : k = n := by omega
      have hd : decide ((k : Int) < (k : Int)) = false := by simp
      have OF : Hid (OwnV wr (w.heap.size + 2) u5 (dropV B s)) := by
        have := O.out
        rw [← HN.out, List.take_length] at this; exact this
      obtain ⟨p2, c2, hv2, I2⟩ := gv_read OF.out
      have I2' : Hid (IsGv wr (w.heap.size + 2) p2 (dropV B s)) := I2
      clear O OF I2
      subst hv2
      generalize hq : (dropV B s).length = q
      have x0 : wr.cell? ⟨w.heap.size, 0, none⟩ = some (.int .i64 m) := Go.Joins.cell_of_block X.out 0
      have x1 : wr.cell? ⟨w.heap.size, 1, none⟩ = some (.int .i64 g) := Go.Joins.cell_of_block X.out 1
      have x2 : wr.cell? ⟨w.heap.size, 2, none⟩ = some (.slice p k c) := Go.Joins.cell_of_block X.out 2
      have f2 : wr.frozen? ⟨w.heap.size, 2, none⟩ = false := Go.Joins.unfrozen_of_block X.out 2
      have z0 : wr.cell? ⟨w.heap.size + 1, 0, none⟩ = some (.int .i64 0) := Go.Joins.cell_of_block Z.out 0
      have z1 : wr.cell? ⟨w.heap.size + 1, 1, none⟩ = some (.int .i64 0) := Go.Joins.cell_of_block Z.out 1
      have z2 : wr.cell? ⟨w.heap.size + 1, 2, none⟩ = some (.slice none 0 0) := Go.Joins.cell_of_block Z.out 2
      have h0 : wr.frozen? ⟨w.heap.size + 1, 0, none⟩ = false := Go.Joins.unfrozen_of_block Z.out 0
      have h1 : wr.frozen? ⟨w.heap.size + 1, 1, none⟩ = false := Go.Joins.unfrozen_of_block Z.out 1
      have h2 : wr.frozen? ⟨w.heap.size + 1, 2, none⟩ = false := Go.Joins.unfrozen_of_block Z.out 2
      go_wp2_with fail
      change bodyPost _ _ _ _ _ ((wr.setCell ⟨w.heap.size, 2, none⟩ (.slice p2 q c2)).setCells (w.heap.size + 1) 0 [.int .i64 m, .int .i64 g, .slice p2 q c2])
      have TH : (wr.setCell ⟨w.heap.size, 2, none⟩ (.slice p2 q c2)).there (w.heap.size + 1) 0 3 := there_block ((Below.heap_setCell _ _ _ _ (by show w.heap.size + 1 ≠ w.heap.size; omega)).trans Z.out)
      have hr := run_loadVar_mid (P := Try.prog) ((wr.setCell ⟨w.heap.size, 2, none⟩ (.slice p2 q c2)).setCells (w.heap.size + 1) 0 [.int .i64 m, .int .i64 g, .slice p2 q c2]) (w.heap.size + 1) 0 30 [.int .i64 m, .int .i64 g, .slice p2 q c2] _ (World.rangeAt_setCells_same _ (w.heap.size + 1) 0 [.int .i64 m, .int .i64 g, .slice p2 q c2] TH) Try.underlying30 rfl tags_info
      refine bodyPost_ret (v := .agg #[.int .i64 m, .int .i64 g, .slice p2 q c2]) ?_ rfl ?_
      · exact results_one Try.results11 _ _ _ _ _ rfl hr
      · exact ⟨p2, c2, by rw [hq], (gv_scs (gv_sc I2'.out (by omega)) (by omega) _).weak (by omega), bel_scs (bel_sc Bl.out (by omega)) (by omega) _⟩

/-- the program's tags are the document's list -/
structure Cor (S : Tg) (B : List Gv) (m g : Int) : Prop where
  good : Good S
  most : S.most = m
  gen : S.gen = g
  next : S.next = (B.length : Int) + 1
  same : ∀ s (i : Nat), i < B.length → (fits s (B.getD i Gv.zero) = true ↔ S.T s = some ((i : Int) + 1))
theorem fits_iff (s : Int) (b : Gv) : fits s b = true ↔ b.has = true ∧ b.sp = s := by unfold fits; simp
theorem getD_app_lt (B : List Gv) (x : Gv) (i : Nat) (h : i < B.length) : (B ++ [x]).getD i Gv.zero = B.getD i Gv.zero := by simp [List.getD, List.getElem?_append_left h]
theorem getD_app_eq (B : List Gv) (x : Gv) : (B ++ [x]).getD B.length Gv.zero = x := by simp [List.getD]
theorem cor_fresh (m : Int) (h0 : 1 ≤ m) (h1 : m ≤ 4095) : Cor (freshS m) [] m 0 := ⟨fresh_good m h0 h1, rfl, rfl, rfl, fun s i hi => absurd hi (Nat.not_lt_zero _)⟩
/-- a space's tag -/
theorem cor_find {S : Tg} {B : List Gv} {m g : Int} (h : Cor S B m g) (s : Int) : findV s B 0 = (S.T s).getD 0 := by
  cases e : S.T s with
  | none =>
    refine findV_miss s B 0 (fun k hk => ?_)
    cases q : fits s (B.getD k Gv.zero) with
    | false => rfl
    | true => rw [(h.same s k hk).1 q] at e; cases e
  | some t =>
    have lo := h.good.low s t e
    have nx := h.next
    obtain ⟨i, rfl⟩ : ∃ i : Nat, t = (i : Int) + 1 := ⟨(t - 1).toNat, by omega⟩
    rw [findV_hit s B 0 i (by omega) (fun k hk => ?_) ((h.same s i (by omega)).2 e)]
    · show ((0 : Nat) : Int) + i + 1 = (i : Int) + 1; omega
    · cases q : fits s (B.getD k Gv.zero) with
      | false => rfl
      | true =>
        have := (h.same s k (by omega)).1 q
        rw [e] at this
        have := Option.some.inj this
        omega
theorem cor_pos {S : Tg} {B : List Gv} {m g : Int} (h : Cor S B m g) (s : Int) : (S.T s).isSome = decide (0 < (S.T s).getD 0) := by
  cases e : S.T s with
  | none => rfl
  | some t => have := (h.good.low s t e).1; show true = decide (0 < t); rw [decide_eq_true (by omega)]
/-- who has a tag -/
theorem cor_owner {S : Tg} {B : List Gv} {m g : Int} (h : Cor S B m g) (i : Nat) (hi : i < B.length) : ((B.getD i Gv.zero).has = true → S.O ((i : Int) + 1) = some (B.getD i Gv.zero).sp) ∧ ((B.getD i Gv.zero).has = false → S.O ((i : Int) + 1) = none) := by
  constructor
  · intro q
    exact h.good.to _ _ ((h.same _ i hi).1 ((fits_iff _ _).2 ⟨q, rfl⟩))
  · intro q
    cases e : S.O ((i : Int) + 1) with
    | none => rfl
    | some s =>
      have := (h.same s i hi).2 (h.good.back _ _ e)
      rw [((fits_iff _ _).1 this).1] at q; cases q
theorem cor_nobody {S : Tg} {B : List Gv} {m g : Int} (h : Cor S B m g) (t : Int) (ht : t < 1 ∨ (B.length : Int) < t) : S.O t = none := by
  cases e : S.O t with
  | none => rfl
  | some s => have := h.good.low s t (h.good.back _ _ e); have := h.next; omega
theorem cor_get {S : Tg} {B : List Gv} {m g : Int} (h : Cor S B m g) (s : Int) :
    (0 < findV s B 0 → getV S s = findV s B 0 ∧ getB S s = false ∧ getS S s = S) ∧
    (findV s B 0 = 0 → (B.length : Int) < m → getV S s = (B.length : Int) + 1 ∧ getB S s = false ∧ Cor (getS S s) (B ++ [Gv.mk s true]) m g) ∧
    (findV s B 0 = 0 → m ≤ (B.length : Int) → getV S s = 1 ∧ getB S s = true ∧ Cor (getS S s) [Gv.mk s true] m (g + 1)) := by
  have hf := cor_find h s
  have nx := h.next; have ms := h.most
  rcases get_cases S s with ⟨t, q, e1, e2, e3⟩ | ⟨q, c, e1, e2, e3⟩ | ⟨q, c, e1, e2, e3⟩
  · rw [q] at hf
    have lo := (h.good.low s t q).1
    have hf' : findV s B 0 = t := hf
    exact ⟨fun _ => ⟨by rw [e1, hf'], e2, e3⟩, fun z => (by omega), fun z => (by omega)⟩
  · rw [q] at hf
    have hf' : findV s B 0 = 0 := hf
    refine ⟨fun z => (by omega), fun _ z => (by omega), fun _ _ => ⟨e1, e2, (h.good.get s), (h.good.ok.get s).2.2.trans ms, ?_, ?_, ?_⟩⟩
    · rw [e3]; show S.gen + 1 = g + 1; rw [h.gen]
    · rw [e3]; rfl
    · intro x i hi
      have i0 : i = 0 := by simpa using hi
      subst i0
      rw [fits_iff, e3]
      show (true = true ∧ s = x) ↔ setF noneF s (some 1) x = some (((0 : Nat) : Int) + 1)
      by_cases d : x = s
      · subst d; rw [set_same]; simp
      · rw [set_other _ _ _ _ d]; constructor
        · intro ⟨_, k⟩; exact absurd k.symm d
        · intro k; cases k
  · rw [q] at hf
    have hf' : findV s B 0 = 0 := hf
    refine ⟨fun z => (by omega), fun _ _ => ⟨e1.trans nx, e2, (h.good.get s), (h.good.ok.get s).2.2.trans ms, ?_, ?_, ?_⟩, fun _ z => (by omega)⟩
    · rw [e3]; exact h.gen
    · rw [e3]; show S.next + 1 = (((B ++ [Gv.mk s true]).length : Nat) : Int) + 1; rw [List.length_append, nx]; simp
    · intro x i hi
      rw [fits_iff, e3]
      show _ ↔ setF S.T s (some S.next) x = some ((i : Int) + 1)
      by_cases l : i < B.length
      · rw [getD_app_lt B _ i l, ← fits_iff]
        by_cases d : x = s
        · subst d
          rw [set_same, h.same x i l, q]
          constructor
          · intro k; cases k
          · intro k; have := Option.some.inj k; omega
        · rw [set_other _ _ _ _ d]; exact h.same x i l
      · have : i = B.length := by rw [List.length_append] at hi; simp at hi; omega
        subst this
        rw [getD_app_eq]
        by_cases d : x = s
        · subst d; rw [set_same]; simp [nx]
        · rw [set_other _ _ _ _ d]
          constructor
          · intro ⟨_, k⟩; exact absurd k.symm d
          · intro k; have := (h.good.low x _ k).2; omega
theorem getD_map (B : List Gv) (s : Int) (i : Nat) (h : i < B.length) : (dropV B s).getD i Gv.zero = drop1 s (B.getD i Gv.zero) := by unfold dropV; simp [List.getD, List.getElem?_map, List.getElem?_eq_getElem h]
theorem dropV_length (B : List Gv) (s : Int) : (dropV B s).length = B.length := by unfold dropV; rw [List.length_map]
theorem cor_drop {S : Tg} {B : List Gv} {m g : Int} (h : Cor S B m g) (s : Int) : Cor (dropS S s) (dropV B s) m g := by
  have gd := h.good.drop s
  have o := h.good.ok.drop s
  refine ⟨gd, o.2.2.trans h.most, o.2.1.trans h.gen, ?_, ?_⟩
  · rw [dropV_length]
    have : (dropS S s).next = S.next := by unfold dropS; cases e : S.T s with | none => rfl | some t => rfl
    rw [this]; exact h.next
  · intro x i hi
    rw [dropV_length] at hi
    rw [getD_map B s i hi, fits_iff]
    have key : (dropS S s).T x = if x = s then none else S.T x := by
      unfold dropS
      cases e : S.T s with
      | none =>
        by_cases d : x = s
        · subst d; rw [if_pos rfl]; exact e
        · rw [if_neg d]
      | some t =>
        by_cases d : x = s
        · subst d; rw [if_pos rfl]; exact set_same _ _ _
        · rw [if_neg d]; exact set_other _ _ _ _ d
    rw [key]
    by_cases d : x = s
    · subst d
      rw [if_pos rfl]
      constructor
      · intro ⟨a, b⟩
        unfold drop1 at a b
        by_cases c : (B.getD i Gv.zero).sp = x
        · rw [if_pos c] at a; cases a
        · rw [if_neg c] at b; exact absurd b c
      · intro k; cases k
    · rw [if_neg d, ← h.same x i hi, fits_iff]
      unfold drop1
      by_cases c : (B.getD i Gv.zero).sp = s
      · rw [if_pos c]
        constructor
        · intro ⟨a, _⟩; cases a
        · intro ⟨_, b⟩; exact absurd (b.symm.trans c) d
      · rw [if_neg c]
end Go.Proofs.Ytbdakoijhpobdaa
