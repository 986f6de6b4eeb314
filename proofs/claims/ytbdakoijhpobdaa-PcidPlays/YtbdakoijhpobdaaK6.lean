/- Tags: the document's Get. -/
import Derived.Test.YtbdakoijhpobdaaK5
import Derived.Maps.AppendAt
import Derived.Laws.OwnMore
import Derived.OwnWalk
namespace Go.Proofs.Ytbdakoijhpobdaa
open Go.ChangeShapes Go.WideShapes Go.ChangeAt Go.RowKit Go.Maps
set_option linter.unusedSimpArgs false
set_option linter.unusedVariables false

def zgv : Value := .agg #[.int .i64 0, .bool false]
theorem gv_info5 : (Try.prog.info? 41).map (fun i => (i.zero, i.size, i.bytes)) = some (some zgv, 2, 16) := by kernel_rfl
theorem genc_len (b : Gv) : b.enc.length = 2 := rfl
theorem flatV_len : ∀ (L : List Gv), (L.flatMap Gv.enc).length = L.length * 2
  | [] => rfl
  | l :: r => by rw [List.flatMap_cons, List.length_append, genc_len, flatV_len r, List.length_cons]; omega
theorem flatV_enc : ∀ (L : List Gv) (i j : Nat), i < L.length → j < 2 → (L.flatMap Gv.enc)[i * 2 + j]? = (L.getD i Gv.zero).enc[j]?
  | [], i, j, h, _ => absurd h (Nat.not_lt_zero _)
  | l :: r, 0, j, h, hj => by
    rw [List.flatMap_cons, List.getElem?_append_left (by rw [genc_len]; omega)]
    simp [List.getD]
  | l :: r, i + 1, j, h, hj => by
    rw [List.flatMap_cons, List.getElem?_append_right (by rw [genc_len]; omega), genc_len, show (i + 1) * 2 + j - 2 = i * 2 + j by omega, flatV_enc r i j (by simpa using h) hj]
    simp [List.getD]
/-- a list in the making -/
def OwnV (w : World) (base : Nat) (v : Value) (L : List Gv) : Prop := w.ownsRow base 41 2 v L.length (L.flatMap Gv.enc)
theorem gv_read {w : World} {base : Nat} {v : Value} {L : List Gv} (h : OwnV w base v L) : ∃ p c, v = .slice p L.length c ∧ IsGv w base p L := by
  obtain ⟨h1, h2 | ⟨g, cap, cur, e1, e2, e3, e4, e5, e6, e7⟩⟩ := h
  · refine ⟨none, 0, by rw [h2.1, h2.2], fun i hi => ?_⟩
    rw [h2.2] at hi; exact absurd hi (Nat.not_lt_zero _)
  · refine ⟨_, cap, e1, fun i hi => ⟨g, rfl, e2, (Array.getElem?_eq_some_iff.1 e3).1, fun j x hx => ?_⟩⟩
    have hj : j < 2 := (List.getElem?_eq_some_iff.1 hx).1
    rw [Go.Joins.cell_of_block e3 _]
    have : (cur.toList.take (L.length * 2))[i * 2 + j]? = (L.flatMap Gv.enc)[i * 2 + j]? := by rw [e7]
    rw [List.getElem?_take, if_pos (by omega), Array.getElem?_toList, flatV_enc L i j hi hj] at this
    rw [this]; exact hx
theorem own_start (w : World) : OwnV (w.alloc (.cells #[] 41)) w.heap.size (.slice (some ⟨w.heap.size, 0, none⟩) 0 0) [] := ⟨rfl, Or.inr ⟨w.heap.size, 0, #[], rfl, Nat.le_refl _, own1 w _, by simp, by simp, rfl, rfl⟩⟩
theorem OwnV.next {w : World} {base : Nat} {v : Value} {L : List Gv} {b : Gv} (h : w.ownsRow base 41 2 v (L.length + 1) (L.flatMap Gv.enc ++ b.enc)) : OwnV w base v (L ++ [b]) := by
  unfold OwnV; simpa [List.flatMap_append] using h
theorem own_keep {w w' : World} {base n e s : Nat} {v : Value} {xs : List Value} (h : w.ownsRow base e s v n xs) (hb : Below w.heap.size w w') : w'.ownsRow base e s v n xs := by
  obtain ⟨h1, h2⟩ := h
  refine ⟨h1, ?_⟩
  rcases h2 with h2 | ⟨g', cap', cur, e1, e2, e3, e4⟩
  · exact Or.inl h2
  · have hg' : g' < w.heap.size := (Array.getElem?_eq_some_iff.1 e3).1
    exact Or.inr ⟨g', cap', cur, e1, e2, (hb.block g' hg').trans e3, e4⟩
theorem own_base {w : World} {base n e s : Nat} {v : Value} {xs : List Value} (h : w.ownsRow base e s v n xs) : ∀ j, v.ownBlock = some j → base ≤ j := by
  obtain ⟨h1, h2⟩ := h
  rcases h2 with h2 | ⟨g', cap', cur, e1, e2, e3, e4⟩
  · intro j hj; rw [h2.1] at hj; cases hj
  · intro j hj; rw [e1] at hj; cases hj; exact e2
theorem below_grown {w U a0 : World} {v : Value} {n e s : Nat} {xs : List Value} (B : Below w.heap.size w U) (O : U.ownsRow w.heap.size e s v n xs) (hg : U.grownBy a0 v.ownBlock) : Below w.heap.size w a0 :=
  B.grown hg B.size (fun j ej => own_base O j ej)
theorem news_cells1 (u : World) (C : Array Value) (t : TypeId) : ∀ j x, C.toList[j]? = some x → (u.alloc (.cells C t)).cell? ((⟨u.heap.size, 0, none⟩ : Addr).add j) = some x := by
  intro j x hx
  rw [Addr.add_mid, Nat.zero_add]
  exact (Go.Joins.cell_of_block (own1 u (.cells C t)) j).trans (by simpa using hx)
/-- the cells of a list that lies in memory -/
theorem gv_cells {w : World} {base : Nat} {a : Addr} {B : List Gv} (h : IsGv w base (some a) B) : ∀ j u, (B.flatMap Gv.enc)[j]? = some u → w.cell? (a.add j) = some u := by
  intro j u hu
  have hj : j < B.length * 2 := by rw [← flatV_len]; exact (List.getElem?_eq_some_iff.1 hu).1
  obtain ⟨g, e, _, _, c⟩ := h (j / 2) (by omega)
  cases e
  rw [Addr.add_mid, Nat.zero_add]
  have e2 : j = j / 2 * 2 + j % 2 := by omega
  rw [e2, flatV_enc B (j / 2) (j % 2) (by omega) (by omega)] at hu
  rw [e2]
  exact c _ _ hu
theorem gv_one (B : List Gv) : ∀ u ∈ B.flatMap Gv.enc, u.oneCell' = true := by
  intro u hu
  rw [List.mem_flatMap] at hu
  obtain ⟨b, _, hb⟩ := hu
  unfold Gv.enc at hb
  simp at hb
  rcases hb with rfl | rfl <;> rfl
theorem app_none (t ty : TypeId) (i : TypeInfo) (z : Value) (e : TypeId) (ht : Try.prog.underlying t = some (.slice e)) (hi : Try.prog.info? e = some i) (hz : i.zero = some z) (w : World) (a : Addr) (c : Nat) : (Builtin.append_ #[t, t] ty #[.slice (some a) 0 0, .slice none 0 c]).run Try.prog w = .ok (.slice (some a) 0 0) w := by
  simp [Builtin.append_, run_underlying ht, sizeOf, typeInfo, zeroValue, hi, hz, Builtin.lenOf, Builtin.firstCells, storeCells]
theorem bel_sc {n b o : Nat} {w X : World} {v : Value} (h : Below n w X) (hb : n ≤ b) : Below n w (X.setCell ⟨b, o, none⟩ v) := h.setCell hb v
theorem gv_sc {base b o : Nat} {X : World} {v : Value} {p : Option Addr} {B : List Gv} (h : IsGv X base p B) (hb : b < base) : IsGv (X.setCell ⟨b, o, none⟩ v) base p B := fun i hi => by
  obtain ⟨g, e, l1, l2, c⟩ := h i hi
  exact ⟨g, e, l1, by rw [World.size_setCell]; exact l2, fun j x hx => (World.cell?_of_block (w := X) (a := ⟨g, i * 2 + j, none⟩) (Below.heap_setCell _ _ _ _ (by show g ≠ b; omega))).trans (c j x hx)⟩
theorem results_three {fn : Func} {p q r : Tmp} {t : TypeId} (h : fn.results = #[.cell p t, .tmp q, .tmp r]) (tmps : Array Value) (P : Program) (w : World) (a : Addr) (x y z : Value)
    (ha : tmps.getD p undef = .pointer (some a)) (hb : tmps.getD q undef = y) (hc : tmps.getD r undef = z) (hx : (loadVar t a).run P w = .ok x w) :
    (results fn tmps).run P w = .ok (.tuple #[x, y, z]) w := by
  simp only [results, h]
  have e1 : ∀ W : World, (asAddr (Value.pointer (some a))).run P W = .ok a W := fun _ => rfl
  simp at ha hb hc
  simp [Sem.run_bind, Result.andThen, ha, hb, hc, e1, hx]
theorem tags_info : (Try.prog.info? 30).map (·.size) = some 3 := by kernel_rfl
theorem there_block {w : World} {b : Nat} {C : Array Value} {t : TypeId} (h : w.heap[b]? = some (.cells C t (0, 0))) : w.there b 0 C.size := fun j hj => by
  rw [Nat.zero_add]
  exact ⟨by rw [Go.Joins.cell_of_block h j, Array.getElem?_eq_getElem hj]; rfl, Go.Joins.unfrozen_of_block h j⟩
theorem bel_scs {n b o : Nat} {w X : World} (h : Below n w X) (hb : n ≤ b) : ∀ (vs : List Value), Below n w (X.setCells b o vs) := fun vs => by
  induction vs generalizing X o with
  | nil => exact h
  | cons v r ih => rw [World.setCells]; exact ih (bel_sc h hb)
theorem gv_scs {base b o : Nat} {X : World} {p : Option Addr} {B : List Gv} (h : IsGv X base p B) (hb : b < base) : ∀ (vs : List Value), IsGv (X.setCells b o vs) base p B := fun vs => by
  induction vs generalizing X o with
  | nil => exact h
  | cons v r ih => rw [World.setCells]; exact ih (gv_sc h hb)
theorem gv_drew {base : Nat} {X : World} {p : Option Addr} {B : List Gv} (h : IsGv X base p B) : IsGv X.drew base p B := h

set_option maxHeartbeats 1000000 in
theorem rget_has (base : Nat) (m g : Int) (p : Option Addr) (c : Nat) (B : List Gv) (hB : B.length ≤ 100) (s : Int) (hf : 0 < findV s B 0) (w : World) (h : IsGv w base p B) :
    Calls Try.prog 13 #[.agg #[.int .i64 m, .int .i64 g, .slice p B.length c], .int .i64 s] w fun e w' => e = .returned (.tuple #[.agg #[.int .i64 m, .int .i64 g, .slice p B.length c], .int .i64 (findV s B 0), .bool false]) ∧ Below w.heap.size w w' := by
  have hfd : decide (0 < findV s B 0) = true := by simp [hf]
  have FI : Hid (∀ W : World, IsGv W base p B → Calls Try.prog 15 #[.agg #[.int .i64 m, .int .i64 g, .slice p B.length c], .int .i64 s] W fun e w' => e = .returned (.int .i64 (findV s B 0)) ∧ Below W.heap.size W w') := fun W h => findV_any base m g p c B hB s W h
  have HB : Hid (IsGv w base p B) := h
  clear h
  generalize findV s B 0 = fv at FI hf hfd ⊢
  obtain ⟨n, hn⟩ : ∃ n, B.length = n := ⟨_, rfl⟩
  have HN : Hid (B.length = n) := hn
  rw [hn] at FI hB ⊢
  clear hn
  have lw1 : w.heap.size + 1 < ((w.alloc (.cells #[.int .i64 m, .int .i64 g, .slice p n c] 30)).alloc (.cells #[.int .i64 0, .int .i64 0, .slice none 0 0] 30)).heap.size := by rw [World.size_alloc, World.size_alloc]; omega
  have lw0 : w.heap.size < ((w.alloc (.cells #[.int .i64 m, .int .i64 g, .slice p n c] 30)).alloc (.cells #[.int .i64 0, .int .i64 0, .slice none 0 0] 30)).heap.size := by rw [World.size_alloc, World.size_alloc]; omega
  go_enter Try.func13, Try.ntmps13
  go_wp2_with fail
  refine (FI.out _ (HB.out.below (Go.Joins.below_alloc2 _ _ _))).mono ?_
  rintro e u1 ⟨rfl, hb1⟩
  have B1 : Hid (Below w.heap.size w u1) := below_then (Go.Joins.below_alloc2 _ _ _) hb1
  have L1 : w.heap.size + 1 < u1.heap.size := Nat.lt_of_lt_of_le lw1 hb1.size
  have L0 : w.heap.size < u1.heap.size := Nat.lt_of_lt_of_le lw0 hb1.size
  have Xu1 : Hid (u1.heap[w.heap.size]? = some (.cells #[.int .i64 m, .int .i64 g, .slice p n c] 30 (0, 0))) := (hb1.block _ lw0).trans (((Go.Joins.below_alloc1 _ _).block _ (by rw [World.size_alloc]; omega)).trans (own1 w _))
  have Zu1 : Hid (u1.heap[w.heap.size + 1]? = some (.cells #[.int .i64 0, .int .i64 0, .slice none 0 0] 30 (0, 0))) := (hb1.block _ lw1).trans (by have := own1 (w.alloc (.cells #[.int .i64 m, .int .i64 g, .slice p n c] 30)) (.cells #[.int .i64 0, .int .i64 0, .slice none 0 0] 30); rw [World.size_alloc] at this; exact this)
  have x0u1 : u1.cell? ⟨w.heap.size, 0, none⟩ = some (.int .i64 m) := Go.Joins.cell_of_block Xu1.out 0
  have p0u1 : u1.frozen? ⟨w.heap.size, 0, none⟩ = false := Go.Joins.unfrozen_of_block Xu1.out 0
  have z0u1 : u1.cell? ⟨w.heap.size + 1, 0, none⟩ = some (.int .i64 0) := Go.Joins.cell_of_block Zu1.out 0
  have q0u1 : u1.frozen? ⟨w.heap.size + 1, 0, none⟩ = false := Go.Joins.unfrozen_of_block Zu1.out 0
  have x1u1 : u1.cell? ⟨w.heap.size, 1, none⟩ = some (.int .i64 g) := Go.Joins.cell_of_block Xu1.out 1
  have p1u1 : u1.frozen? ⟨w.heap.size, 1, none⟩ = false := Go.Joins.unfrozen_of_block Xu1.out 1
  have z1u1 : u1.cell? ⟨w.heap.size + 1, 1, none⟩ = some (.int .i64 0) := Go.Joins.cell_of_block Zu1.out 1
  have q1u1 : u1.frozen? ⟨w.heap.size + 1, 1, none⟩ = false := Go.Joins.unfrozen_of_block Zu1.out 1
  have x2u1 : u1.cell? ⟨w.heap.size, 2, none⟩ = some (.slice p n c) := Go.Joins.cell_of_block Xu1.out 2
  have p2u1 : u1.frozen? ⟨w.heap.size, 2, none⟩ = false := Go.Joins.unfrozen_of_block Xu1.out 2
  have z2u1 : u1.cell? ⟨w.heap.size + 1, 2, none⟩ = some (.slice none 0 0) := Go.Joins.cell_of_block Zu1.out 2
  have q2u1 : u1.frozen? ⟨w.heap.size + 1, 2, none⟩ = false := Go.Joins.unfrozen_of_block Zu1.out 2
  clear hb1 lw0 lw1
  go_wp2_with fail
  change bodyPost _ _ _ _ _ (u1.setCells (w.heap.size + 1) 0 [.int .i64 m, .int .i64 g, .slice p n c])
  have hr := run_loadVar_mid (P := Try.prog) (u1.setCells (w.heap.size + 1) 0 [.int .i64 m, .int .i64 g, .slice p n c]) (w.heap.size + 1) 0 30 [.int .i64 m, .int .i64 g, .slice p n c] _ (World.rangeAt_setCells_same _ (w.heap.size + 1) 0 [.int .i64 m, .int .i64 g, .slice p n c] (show u1.there (w.heap.size + 1) 0 3 from there_block (Zu1.out))) Try.underlying30 rfl tags_info
  refine bodyPost_ret (v := .tuple #[.agg #[.int .i64 m, .int .i64 g, .slice p n c], .int .i64 fv, .bool false]) ?_ rfl ⟨rfl, bel_scs B1.out (by omega) _⟩
  exact results_three Try.results13 _ _ _ _ _ _ _ rfl rfl rfl hr

set_option maxHeartbeats 4000000 in
theorem rget_some (base : Nat) (m g : Int) (a : Addr) (c : Nat) (B : List Gv) (hB : B.length ≤ 100) (s : Int) (hf : findV s B 0 = 0) (ho : (B.length : Int) < m) (w : World) (h : IsGv w base (some a) B) :
    Calls Try.prog 13 #[.agg #[.int .i64 m, .int .i64 g, .slice (some a) B.length c], .int .i64 s] w fun e w' => ∃ p' c', e = .returned (.tuple #[.agg #[.int .i64 m, .int .i64 g, .slice p' (B ++ [Gv.mk s true]).length c'], .int .i64 ((B.length : Int) + 1), .bool false]) ∧ IsGv w' w.heap.size p' (B ++ [Gv.mk s true]) ∧ Below w.heap.size w w' := by
  obtain ⟨i0, hi, hz0, hz1, hz2⟩ := info5 gv_info5
  obtain ⟨p, hp⟩ : ∃ p, some a = p := ⟨_, rfl⟩
  rw [hp] at h
  rw [hp]
  have HP : Hid (some a = p) := hp
  clear hp
  have FI : Hid (∀ W : World, IsGv W base p B → Calls Try.prog 15 #[.agg #[.int .i64 m, .int .i64 g, .slice p B.length c], .int .i64 s] W fun e w' => e = .returned (.int .i64 (findV s B 0)) ∧ Below W.heap.size W w') := fun W h => findV_any base m g p c B hB s W h
  have HB : Hid (IsGv w base p B) := h
  clear h
  rw [hf] at FI
  obtain ⟨n, hn⟩ : ∃ n, B.length = n := ⟨_, rfl⟩
  have HN : Hid (B.length = n) := hn
  have hol : decide (m ≤ (n : Int)) = false := by rw [← hn]; simp; omega
  rw [hn] at FI hB ⊢
  clear hn hf
  have lw1 : w.heap.size + 1 < ((w.alloc (.cells #[.int .i64 m, .int .i64 g, .slice p n c] 30)).alloc (.cells #[.int .i64 0, .int .i64 0, .slice none 0 0] 30)).heap.size := by rw [World.size_alloc, World.size_alloc]; omega
  have lw0 : w.heap.size < ((w.alloc (.cells #[.int .i64 m, .int .i64 g, .slice p n c] 30)).alloc (.cells #[.int .i64 0, .int .i64 0, .slice none 0 0] 30)).heap.size := by rw [World.size_alloc, World.size_alloc]; omega
  go_enter Try.func13, Try.ntmps13
  go_wp2_with fail
  refine (FI.out _ (HB.out.below (Go.Joins.below_alloc2 _ _ _))).mono ?_
  rintro e u1 ⟨rfl, hb1⟩
  have B1 : Hid (Below w.heap.size w u1) := below_then (Go.Joins.below_alloc2 _ _ _) hb1
  have L1 : w.heap.size + 1 < u1.heap.size := Nat.lt_of_lt_of_le lw1 hb1.size
  have L0 : w.heap.size < u1.heap.size := Nat.lt_of_lt_of_le lw0 hb1.size
  have Xu1 : Hid (u1.heap[w.heap.size]? = some (.cells #[.int .i64 m, .int .i64 g, .slice p n c] 30 (0, 0))) := (hb1.block _ lw0).trans (((Go.Joins.below_alloc1 _ _).block _ (by rw [World.size_alloc]; omega)).trans (own1 w _))
  have Zu1 : Hid (u1.heap[w.heap.size + 1]? = some (.cells #[.int .i64 0, .int .i64 0, .slice none 0 0] 30 (0, 0))) := (hb1.block _ lw1).trans (by have := own1 (w.alloc (.cells #[.int .i64 m, .int .i64 g, .slice p n c] 30)) (.cells #[.int .i64 0, .int .i64 0, .slice none 0 0] 30); rw [World.size_alloc] at this; exact this)
  have x0u1 : u1.cell? ⟨w.heap.size, 0, none⟩ = some (.int .i64 m) := Go.Joins.cell_of_block Xu1.out 0
  have p0u1 : u1.frozen? ⟨w.heap.size, 0, none⟩ = false := Go.Joins.unfrozen_of_block Xu1.out 0
  have z0u1 : u1.cell? ⟨w.heap.size + 1, 0, none⟩ = some (.int .i64 0) := Go.Joins.cell_of_block Zu1.out 0
  have q0u1 : u1.frozen? ⟨w.heap.size + 1, 0, none⟩ = false := Go.Joins.unfrozen_of_block Zu1.out 0
  have x1u1 : u1.cell? ⟨w.heap.size, 1, none⟩ = some (.int .i64 g) := Go.Joins.cell_of_block Xu1.out 1
  have p1u1 : u1.frozen? ⟨w.heap.size, 1, none⟩ = false := Go.Joins.unfrozen_of_block Xu1.out 1
  have z1u1 : u1.cell? ⟨w.heap.size + 1, 1, none⟩ = some (.int .i64 0) := Go.Joins.cell_of_block Zu1.out 1
  have q1u1 : u1.frozen? ⟨w.heap.size + 1, 1, none⟩ = false := Go.Joins.unfrozen_of_block Zu1.out 1
  have x2u1 : u1.cell? ⟨w.heap.size, 2, none⟩ = some (.slice p n c) := Go.Joins.cell_of_block Xu1.out 2
  have p2u1 : u1.frozen? ⟨w.heap.size, 2, none⟩ = false := Go.Joins.unfrozen_of_block Xu1.out 2
  have z2u1 : u1.cell? ⟨w.heap.size + 1, 2, none⟩ = some (.slice none 0 0) := Go.Joins.cell_of_block Zu1.out 2
  have q2u1 : u1.frozen? ⟨w.heap.size + 1, 2, none⟩ = false := Go.Joins.unfrozen_of_block Zu1.out 2
  clear hb1 lw0 lw1
  have GC : Hid (∀ j u, (B.flatMap Gv.enc)[j]? = some u → (u1.alloc (.cells #[] 41)).cell? (a.add j) = some u) := gv_cells (by rw [HP.out]; exact HB.out.below (below_new B1.out _))
  have GO : Hid (∀ u ∈ B.flatMap Gv.enc, u.oneCell' = true) := gv_one B
  have GL : Hid ((B.flatMap Gv.enc).length = n * 2) := by show _ = _; rw [flatV_len, HN.out]
  have hpp := HP.out
  subst hpp
  have O0 : Hid ((u1.alloc (.cells #[] 41)).ownsRow u1.heap.size 41 2 (.slice (some ⟨u1.heap.size, 0, none⟩) 0 0) 0 []) := own_start u1
  have HZ0 : Hid (u1.heap.size ≤ (u1.alloc (.cells #[] 41)).heap.size) := by show _ ≤ _; rw [World.size_alloc]; omega
  have MX0 : Hid (0 + n ≤ maxLen) := by show _ ≤ _; unfold maxLen; omega
  have BY0 : Hid ((0 + n) * 16 ≤ 140737488355328) := by show _ ≤ _; omega
  go_wp2_with (first | (at_builtin; refine wpList_append_own _ rfl _ _ 28 rfl u1.heap.size 41 i0 zgv 2 16 Try.underlying28 hi hz0 hz1 hz2 rfl (by decide) (.slice (some ⟨u1.heap.size, 0, none⟩) 0 0) 0 [] rfl O0.out a n c (B.flatMap Gv.enc) rfl GL.out GC.out GO.out MX0.out BY0.out HZ0.out ?_; intro v1 a0 hown hg hnil; have O1 : Hid (a0.ownsRow u1.heap.size 41 2 v1 n (B.flatMap Gv.enc)) := (by rw [Nat.zero_add, List.nil_append] at hown; exact hown); have BA : Hid (Below u1.heap.size u1 a0) := below_grown (Go.Joins.below_alloc1 _ _) O0.out hg; clear hown hg hnil O0 HZ0 MX0 BY0 GC GO GL; have OW : Hid ((a0.alloc (.cells #[.int .i64 s, .bool true] 41)).ownsRow u1.heap.size 41 2 v1 n (B.flatMap Gv.enc)) := own_keep O1.out (Go.Joins.below_alloc1 _ _); have NW : Hid (∀ j x, ([.int .i64 s, .bool true] : List Value)[j]? = some x → (a0.alloc (.cells #[.int .i64 s, .bool true] 41)).cell? ((⟨a0.heap.size, 0, none⟩ : Addr).add j) = some x) := news_cells1 a0 #[.int .i64 s, .bool true] 41; have ON : Hid (∀ x ∈ ([.int .i64 s, .bool true] : List Value), x.oneCell' = true) := (by show ∀ x ∈ ([.int .i64 s, .bool true] : List Value), x.oneCell' = true; simp [Value.oneCell']); have HZ : Hid (u1.heap.size ≤ (a0.alloc (.cells #[.int .i64 s, .bool true] 41)).heap.size) := (by show _ ≤ _; rw [World.size_alloc]; have := BA.out.size; omega); have MX : Hid (n + 1 ≤ maxLen) := (by show _ ≤ _; unfold maxLen; omega); have BY : Hid ((n + 1) * 16 ≤ 140737488355328) := (by show _ ≤ _; omega); have BU : Hid (Below u1.heap.size u1 (a0.alloc (.cells #[.int .i64 s, .bool true] 41))) := (BA.out).trans (Go.Joins.below_le (Go.Joins.below_alloc1 a0 _) BA.out.size)) | (at_builtin; refine wpList_append_own _ rfl _ _ 28 rfl u1.heap.size 41 i0 zgv 2 16 Try.underlying28 hi hz0 hz1 hz2 rfl (by decide) v1 (n) ((B.flatMap Gv.enc)) rfl OW.out ⟨a0.heap.size, 0, none⟩ 1 1 ([.int .i64 s, .bool true] : List Value) rfl rfl NW.out ON.out MX.out BY.out HZ.out ?_; intro v2 a1 hown hg hnil; have O2 : Hid (a1.ownsRow u1.heap.size 41 2 v2 (n + 1) ((B.flatMap Gv.enc) ++ [.int .i64 s, .bool true])) := hown; have B2 : Hid (Below u1.heap.size u1 a1) := below_grown BU.out OW.out hg; clear hown hg hnil; obtain ⟨p2, c2, hv2, I2⟩ := gv_read (L := B ++ [Gv.mk s true]) (OwnV.next (by rw [HN.out]; exact O2.out)); have I2' : Hid (IsGv a1 u1.heap.size p2 (B ++ [Gv.mk s true])) := I2; clear I2; subst hv2; have B3 : Hid (Below w.heap.size w a1) := below_then B1.out B2.out; have L2 : w.heap.size + 1 < a1.heap.size := Nat.lt_of_lt_of_le L1 B2.out.size; have Xa1 : Hid (a1.heap[w.heap.size]? = some (.cells #[.int .i64 m, .int .i64 g, .slice (some a) n c] 30 (0, 0))) := (B2.out.block _ L0).trans Xu1.out; have Za1 : Hid (a1.heap[w.heap.size + 1]? = some (.cells #[.int .i64 0, .int .i64 0, .slice none 0 0] 30 (0, 0))) := (B2.out.block _ L1).trans Zu1.out; have x0a1 : a1.cell? ⟨w.heap.size, 0, none⟩ = some (.int .i64 m) := Go.Joins.cell_of_block Xa1.out 0; have p0a1 : a1.frozen? ⟨w.heap.size, 0, none⟩ = false := Go.Joins.unfrozen_of_block Xa1.out 0; have z0a1 : a1.cell? ⟨w.heap.size + 1, 0, none⟩ = some (.int .i64 0) := Go.Joins.cell_of_block Za1.out 0; have q0a1 : a1.frozen? ⟨w.heap.size + 1, 0, none⟩ = false := Go.Joins.unfrozen_of_block Za1.out 0; have x1a1 : a1.cell? ⟨w.heap.size, 1, none⟩ = some (.int .i64 g) := Go.Joins.cell_of_block Xa1.out 1; have p1a1 : a1.frozen? ⟨w.heap.size, 1, none⟩ = false := Go.Joins.unfrozen_of_block Xa1.out 1; have z1a1 : a1.cell? ⟨w.heap.size + 1, 1, none⟩ = some (.int .i64 0) := Go.Joins.cell_of_block Za1.out 1; have q1a1 : a1.frozen? ⟨w.heap.size + 1, 1, none⟩ = false := Go.Joins.unfrozen_of_block Za1.out 1; have x2a1 : a1.cell? ⟨w.heap.size, 2, none⟩ = some (.slice (some a) n c) := Go.Joins.cell_of_block Xa1.out 2; have p2a1 : a1.frozen? ⟨w.heap.size, 2, none⟩ = false := Go.Joins.unfrozen_of_block Xa1.out 2; have z2a1 : a1.cell? ⟨w.heap.size + 1, 2, none⟩ = some (.slice none 0 0) := Go.Joins.cell_of_block Za1.out 2; have q2a1 : a1.frozen? ⟨w.heap.size + 1, 2, none⟩ = false := Go.Joins.unfrozen_of_block Za1.out 2; clear O2 OW NW ON HZ MX BY BU B2))
  go_wp2_with fail
  go_region
  go_wp2_with fail
  change bodyPost _ _ _ _ _ ((a1.setCell ⟨w.heap.size, 2, none⟩ (.slice p2 (B.length + 1) c2)).setCells (w.heap.size + 1) 0 [.int .i64 m, .int .i64 g, .slice p2 (B.length + 1) c2]).drew
  have TH : (a1.setCell ⟨w.heap.size, 2, none⟩ (.slice p2 (B.length + 1) c2)).there (w.heap.size + 1) 0 3 := there_block (((Below.heap_setCell _ _ _ _ (by show w.heap.size + 1 ≠ w.heap.size; omega)).trans Za1.out))
  have rg : ((a1.setCell ⟨w.heap.size, 2, none⟩ (.slice p2 (B.length + 1) c2)).setCells (w.heap.size + 1) 0 [.int .i64 m, .int .i64 g, .slice p2 (B.length + 1) c2]).drew.rangeAt (w.heap.size + 1) 0 [.int .i64 m, .int .i64 g, .slice p2 (B.length + 1) c2] := World.rangeAt_setCells_same _ (w.heap.size + 1) 0 [.int .i64 m, .int .i64 g, .slice p2 (B.length + 1) c2] TH
  have hr := run_loadVar_mid (P := Try.prog) (((a1.setCell ⟨w.heap.size, 2, none⟩ (.slice p2 (B.length + 1) c2)).setCells (w.heap.size + 1) 0 [.int .i64 m, .int .i64 g, .slice p2 (B.length + 1) c2]).drew) (w.heap.size + 1) 0 30 [.int .i64 m, .int .i64 g, .slice p2 (B.length + 1) c2] _ rg Try.underlying30 rfl tags_info
  refine bodyPost_ret (v := .tuple #[.agg #[.int .i64 m, .int .i64 g, .slice p2 (B.length + 1) c2], .int .i64 ((B.length : Int) + 1), .bool false]) ?_ rfl ?_
  · exact results_three Try.results13 _ _ _ _ _ _ _ rfl rfl rfl hr
  · exact ⟨p2, c2, by rw [List.length_append, HN.out]; rfl, gv_drew ((gv_scs (gv_sc I2'.out (by omega)) (by omega) _).weak (by omega)), below_drew (bel_scs (bel_sc B3.out (by omega)) (by omega) _)⟩

set_option maxHeartbeats 4000000 in
theorem rget_none (m g : Int) (c : Nat) (s : Int) (m0 : 1 ≤ m) (w : World)  :
    Calls Try.prog 13 #[.agg #[.int .i64 m, .int .i64 g, .slice none 0 c], .int .i64 s] w fun e w' => ∃ p' c', e = .returned (.tuple #[.agg #[.int .i64 m, .int .i64 g, .slice p' 1 c'], .int .i64 1, .bool false]) ∧ IsGv w' w.heap.size p' [Gv.mk s true] ∧ Below w.heap.size w w' := by
  obtain ⟨i0, hi, hz0, hz1, hz2⟩ := info5 gv_info5
  have FI : Hid (∀ W : World, IsGv W 0 none [] → Calls Try.prog 15 #[.agg #[.int .i64 m, .int .i64 g, .slice none 0 c], .int .i64 s] W fun e w' => e = .returned (.int .i64 0) ∧ Below W.heap.size W w') := fun W h => findV_any 0 m g none c [] (by simp) s W h
  have HB : Hid (IsGv w 0 none []) := IsGv.nil w 0 none
  have hol : decide (m ≤ 0) = false := by simp; omega
  have lw1 : w.heap.size + 1 < ((w.alloc (.cells #[.int .i64 m, .int .i64 g, .slice none 0 c] 30)).alloc (.cells #[.int .i64 0, .int .i64 0, .slice none 0 0] 30)).heap.size := by rw [World.size_alloc, World.size_alloc]; omega
  have lw0 : w.heap.size < ((w.alloc (.cells #[.int .i64 m, .int .i64 g, .slice none 0 c] 30)).alloc (.cells #[.int .i64 0, .int .i64 0, .slice none 0 0] 30)).heap.size := by rw [World.size_alloc, World.size_alloc]; omega
  go_enter Try.func13, Try.ntmps13
  go_wp2_with fail
  refine (FI.out _ (HB.out.below (Go.Joins.below_alloc2 _ _ _))).mono ?_
  rintro e u1 ⟨rfl, hb1⟩
  have B1 : Hid (Below w.heap.size w u1) := below_then (Go.Joins.below_alloc2 _ _ _) hb1
  have L1 : w.heap.size + 1 < u1.heap.size := Nat.lt_of_lt_of_le lw1 hb1.size
  have L0 : w.heap.size < u1.heap.size := Nat.lt_of_lt_of_le lw0 hb1.size
  have Xu1 : Hid (u1.heap[w.heap.size]? = some (.cells #[.int .i64 m, .int .i64 g, .slice none 0 c] 30 (0, 0))) := (hb1.block _ lw0).trans (((Go.Joins.below_alloc1 _ _).block _ (by rw [World.size_alloc]; omega)).trans (own1 w _))
  have Zu1 : Hid (u1.heap[w.heap.size + 1]? = some (.cells #[.int .i64 0, .int .i64 0, .slice none 0 0] 30 (0, 0))) := (hb1.block _ lw1).trans (by have := own1 (w.alloc (.cells #[.int .i64 m, .int .i64 g, .slice none 0 c] 30)) (.cells #[.int .i64 0, .int .i64 0, .slice none 0 0] 30); rw [World.size_alloc] at this; exact this)
  have x0u1 : u1.cell? ⟨w.heap.size, 0, none⟩ = some (.int .i64 m) := Go.Joins.cell_of_block Xu1.out 0
  have p0u1 : u1.frozen? ⟨w.heap.size, 0, none⟩ = false := Go.Joins.unfrozen_of_block Xu1.out 0
  have z0u1 : u1.cell? ⟨w.heap.size + 1, 0, none⟩ = some (.int .i64 0) := Go.Joins.cell_of_block Zu1.out 0
  have q0u1 : u1.frozen? ⟨w.heap.size + 1, 0, none⟩ = false := Go.Joins.unfrozen_of_block Zu1.out 0
  have x1u1 : u1.cell? ⟨w.heap.size, 1, none⟩ = some (.int .i64 g) := Go.Joins.cell_of_block Xu1.out 1
  have p1u1 : u1.frozen? ⟨w.heap.size, 1, none⟩ = false := Go.Joins.unfrozen_of_block Xu1.out 1
  have z1u1 : u1.cell? ⟨w.heap.size + 1, 1, none⟩ = some (.int .i64 0) := Go.Joins.cell_of_block Zu1.out 1
  have q1u1 : u1.frozen? ⟨w.heap.size + 1, 1, none⟩ = false := Go.Joins.unfrozen_of_block Zu1.out 1
  have x2u1 : u1.cell? ⟨w.heap.size, 2, none⟩ = some (.slice none 0 c) := Go.Joins.cell_of_block Xu1.out 2
  have p2u1 : u1.frozen? ⟨w.heap.size, 2, none⟩ = false := Go.Joins.unfrozen_of_block Xu1.out 2
  have z2u1 : u1.cell? ⟨w.heap.size + 1, 2, none⟩ = some (.slice none 0 0) := Go.Joins.cell_of_block Zu1.out 2
  have q2u1 : u1.frozen? ⟨w.heap.size + 1, 2, none⟩ = false := Go.Joins.unfrozen_of_block Zu1.out 2
  clear hb1 lw0 lw1
  have hap : ∀ ty, (Builtin.append_ #[28, 28] ty #[.slice (some ⟨u1.heap.size, 0, none⟩) 0 0, .slice none 0 c]).run Try.prog (u1.alloc (.cells #[] 41)) = .ok (.slice (some ⟨u1.heap.size, 0, none⟩) 0 0) (u1.alloc (.cells #[] 41)) := fun ty => app_none 28 ty i0 zgv 41 Try.underlying28 hi hz0 _ _ _
  have BX : Hid (Below u1.heap.size u1 (u1.alloc (.cells #[] 41))) := Go.Joins.below_alloc1 _ _
  have OW : Hid (((u1.alloc (.cells #[] 41)).alloc (.cells #[.int .i64 s, .bool true] 41)).ownsRow u1.heap.size 41 2 (.slice (some ⟨u1.heap.size, 0, none⟩) 0 0) 0 []) := own_keep (by have := own_start u1; (try simp only [World.size_setCell] at this); exact this) (Go.Joins.below_alloc1 _ _)
  have NW : Hid (∀ j x, ([.int .i64 s, .bool true] : List Value)[j]? = some x → ((u1.alloc (.cells #[] 41)).alloc (.cells #[.int .i64 s, .bool true] 41)).cell? ((⟨u1.heap.size + 1, 0, none⟩ : Addr).add j) = some x) := by
    have := news_cells1 (u1.alloc (.cells #[] 41)) #[.int .i64 s, .bool true] 41
    simp only [World.size_alloc, World.size_setCell] at this
    exact this
  have ON : Hid (∀ x ∈ ([.int .i64 s, .bool true] : List Value), x.oneCell' = true) := by show ∀ x ∈ ([.int .i64 s, .bool true] : List Value), x.oneCell' = true; simp [Value.oneCell']
  have HZ : Hid (u1.heap.size ≤ ((u1.alloc (.cells #[] 41)).alloc (.cells #[.int .i64 s, .bool true] 41)).heap.size) := by show _ ≤ _; rw [World.size_alloc]; have := BX.out.size; omega
  have MX : Hid (0 + 1 ≤ maxLen) := by show _ ≤ _; unfold maxLen; omega
  have BY : Hid ((0 + 1) * 16 ≤ 140737488355328) := by show _ ≤ _; omega
  have BW : Hid (Below w.heap.size w ((u1.alloc (.cells #[] 41)).alloc (.cells #[.int .i64 s, .bool true] 41))) := below_new (below_new B1.out _) _
  have LA : Hid (((u1.alloc (.cells #[] 41)).alloc (.cells #[.int .i64 s, .bool true] 41)).heap.size = u1.heap.size + 2) := by show _ = _; simp
  have XA : Hid (((u1.alloc (.cells #[] 41)).alloc (.cells #[.int .i64 s, .bool true] 41)).heap[w.heap.size]? = some (.cells #[.int .i64 m, .int .i64 g, .slice none 0 c] 30 (0, 0))) := ((Go.Joins.below_alloc2 _ _ _).block _ L0).trans Xu1.out
  have ZA : Hid (((u1.alloc (.cells #[] 41)).alloc (.cells #[.int .i64 s, .bool true] 41)).heap[w.heap.size + 1]? = some (.cells #[.int .i64 0, .int .i64 0, .slice none 0 0] 30 (0, 0))) := ((Go.Joins.below_alloc2 _ _ _).block _ L1).trans Zu1.out
  go_wp2_with (at_builtin; refine wpList_append_own _ rfl _ _ 28 rfl u1.heap.size 41 i0 zgv 2 16 Try.underlying28 hi hz0 hz1 hz2 rfl (by decide) (.slice (some ⟨u1.heap.size, 0, none⟩) 0 0) 0 [] rfl OW.out ⟨u1.heap.size + 1, 0, none⟩ 1 1 ([.int .i64 s, .bool true] : List Value) rfl rfl NW.out ON.out MX.out BY.out HZ.out ?_; intro v2 a1 hown hg hnil; have O2 : Hid (a1.ownsRow u1.heap.size 41 2 v2 (0 + 1) ([] ++ [.int .i64 s, .bool true])) := hown; have G2 : Hid (((u1.alloc (.cells #[] 41)).alloc (.cells #[.int .i64 s, .bool true] 41)).grownBy a1 (some u1.heap.size)) := hg; clear hown hg hnil; obtain ⟨p2, c2, hv2, I2⟩ := gv_read (L := [Gv.mk s true]) O2.out; have I2' : Hid (IsGv a1 u1.heap.size p2 [Gv.mk s true]) := I2; clear I2; subst hv2; have B3 : Hid (Below w.heap.size w a1) := BW.out.grown G2.out BW.out.size (fun j ej => (by cases ej; omega)); have L2 : w.heap.size + 1 < a1.heap.size := Nat.lt_of_lt_of_le (by rw [LA.out]; omega) G2.out.size; have Xa1 : Hid (a1.heap[w.heap.size]? = some (.cells #[.int .i64 m, .int .i64 g, .slice none 0 c] 30 (0, 0))) := (G2.out.block _ (by rw [LA.out]; omega) (by simp; omega)).trans XA.out; have Za1 : Hid (a1.heap[w.heap.size + 1]? = some (.cells #[.int .i64 0, .int .i64 0, .slice none 0 0] 30 (0, 0))) := (G2.out.block _ (by rw [LA.out]; omega) (by simp; omega)).trans ZA.out; have x0a1 : a1.cell? ⟨w.heap.size, 0, none⟩ = some (.int .i64 m) := Go.Joins.cell_of_block Xa1.out 0; have p0a1 : a1.frozen? ⟨w.heap.size, 0, none⟩ = false := Go.Joins.unfrozen_of_block Xa1.out 0; have z0a1 : a1.cell? ⟨w.heap.size + 1, 0, none⟩ = some (.int .i64 0) := Go.Joins.cell_of_block Za1.out 0; have q0a1 : a1.frozen? ⟨w.heap.size + 1, 0, none⟩ = false := Go.Joins.unfrozen_of_block Za1.out 0; have x1a1 : a1.cell? ⟨w.heap.size, 1, none⟩ = some (.int .i64 g) := Go.Joins.cell_of_block Xa1.out 1; have p1a1 : a1.frozen? ⟨w.heap.size, 1, none⟩ = false := Go.Joins.unfrozen_of_block Xa1.out 1; have z1a1 : a1.cell? ⟨w.heap.size + 1, 1, none⟩ = some (.int .i64 0) := Go.Joins.cell_of_block Za1.out 1; have q1a1 : a1.frozen? ⟨w.heap.size + 1, 1, none⟩ = false := Go.Joins.unfrozen_of_block Za1.out 1; have x2a1 : a1.cell? ⟨w.heap.size, 2, none⟩ = some (.slice none 0 c) := Go.Joins.cell_of_block Xa1.out 2; have p2a1 : a1.frozen? ⟨w.heap.size, 2, none⟩ = false := Go.Joins.unfrozen_of_block Xa1.out 2; have z2a1 : a1.cell? ⟨w.heap.size + 1, 2, none⟩ = some (.slice none 0 0) := Go.Joins.cell_of_block Za1.out 2; have q2a1 : a1.frozen? ⟨w.heap.size + 1, 2, none⟩ = false := Go.Joins.unfrozen_of_block Za1.out 2; clear O2 OW NW ON HZ MX BY BW G2 XA ZA LA)
  go_region
  go_wp2_with fail
  change bodyPost _ _ _ _ _ ((a1.setCell ⟨w.heap.size, 2, none⟩ (.slice p2 1 c2)).setCells (w.heap.size + 1) 0 [.int .i64 m, .int .i64 g, .slice p2 1 c2]).drew
  have TH : (a1.setCell ⟨w.heap.size, 2, none⟩ (.slice p2 1 c2)).there (w.heap.size + 1) 0 3 := there_block (((Below.heap_setCell _ _ _ _ (by show w.heap.size + 1 ≠ w.heap.size; omega)).trans Za1.out))
  have rg : ((a1.setCell ⟨w.heap.size, 2, none⟩ (.slice p2 1 c2)).setCells (w.heap.size + 1) 0 [.int .i64 m, .int .i64 g, .slice p2 1 c2]).drew.rangeAt (w.heap.size + 1) 0 [.int .i64 m, .int .i64 g, .slice p2 1 c2] := World.rangeAt_setCells_same _ (w.heap.size + 1) 0 [.int .i64 m, .int .i64 g, .slice p2 1 c2] TH
  have hr := run_loadVar_mid (P := Try.prog) (((a1.setCell ⟨w.heap.size, 2, none⟩ (.slice p2 1 c2)).setCells (w.heap.size + 1) 0 [.int .i64 m, .int .i64 g, .slice p2 1 c2]).drew) (w.heap.size + 1) 0 30 [.int .i64 m, .int .i64 g, .slice p2 1 c2] _ rg Try.underlying30 rfl tags_info
  refine bodyPost_ret (v := .tuple #[.agg #[.int .i64 m, .int .i64 g, .slice p2 1 c2], .int .i64 1, .bool false]) ?_ rfl ?_
  · exact results_three Try.results13 _ _ _ _ _ _ _ rfl rfl rfl hr
  · exact ⟨p2, c2, rfl, gv_drew ((gv_scs (gv_sc I2'.out (by omega)) (by omega) _).weak (by omega)), below_drew (bel_scs (bel_sc B3.out (by omega)) (by omega) _)⟩

set_option maxHeartbeats 4000000 in
theorem rget_over (base : Nat) (m g : Int) (p : Option Addr) (c : Nat) (B : List Gv) (hB : B.length ≤ 100) (s : Int) (hf : findV s B 0 = 0) (ho : m ≤ (B.length : Int)) (g0 : 0 ≤ g) (g1 : g < 4611686018427387904) (w : World) (h : IsGv w base p B) :
    Calls Try.prog 13 #[.agg #[.int .i64 m, .int .i64 g, .slice p B.length c], .int .i64 s] w fun e w' => ∃ p' c', e = .returned (.tuple #[.agg #[.int .i64 m, .int .i64 (g + 1), .slice p' 1 c'], .int .i64 1, .bool true]) ∧ IsGv w' w.heap.size p' [Gv.mk s true] ∧ Below w.heap.size w w' := by
  obtain ⟨i0, hi, hz0, hz1, hz2⟩ := info5 gv_info5
  have FI : Hid (∀ W : World, IsGv W base p B → Calls Try.prog 15 #[.agg #[.int .i64 m, .int .i64 g, .slice p B.length c], .int .i64 s] W fun e w' => e = .returned (.int .i64 (findV s B 0)) ∧ Below W.heap.size W w') := fun W h => findV_any base m g p c B hB s W h
  have HB : Hid (IsGv w base p B) := h
  clear h
  rw [hf] at FI
  obtain ⟨n, hn⟩ : ∃ n, B.length = n := ⟨_, rfl⟩
  have HN : Hid (B.length = n) := hn
  have hol : decide (m ≤ (n : Int)) = true := by rw [← hn]; simp; omega
  rw [hn] at FI hB ⊢
  clear hn hf
  have lw1 : w.heap.size + 1 < ((w.alloc (.cells #[.int .i64 m, .int .i64 g, .slice p n c] 30)).alloc (.cells #[.int .i64 0, .int .i64 0, .slice none 0 0] 30)).heap.size := by rw [World.size_alloc, World.size_alloc]; omega
  have lw0 : w.heap.size < ((w.alloc (.cells #[.int .i64 m, .int .i64 g, .slice p n c] 30)).alloc (.cells #[.int .i64 0, .int .i64 0, .slice none 0 0] 30)).heap.size := by rw [World.size_alloc, World.size_alloc]; omega
  go_enter Try.func13, Try.ntmps13
  go_wp2_with fail
  refine (FI.out _ (HB.out.below (Go.Joins.below_alloc2 _ _ _))).mono ?_
  rintro e u1 ⟨rfl, hb1⟩
  have B1 : Hid (Below w.heap.size w u1) := below_then (Go.Joins.below_alloc2 _ _ _) hb1
  have L1 : w.heap.size + 1 < u1.heap.size := Nat.lt_of_lt_of_le lw1 hb1.size
  have L0 : w.heap.size < u1.heap.size := Nat.lt_of_lt_of_le lw0 hb1.size
  have Xu1 : Hid (u1.heap[w.heap.size]? = some (.cells #[.int .i64 m, .int .i64 g, .slice p n c] 30 (0, 0))) := (hb1.block _ lw0).trans (((Go.Joins.below_alloc1 _ _).block _ (by rw [World.size_alloc]; omega)).trans (own1 w _))
  have Zu1 : Hid (u1.heap[w.heap.size + 1]? = some (.cells #[.int .i64 0, .int .i64 0, .slice none 0 0] 30 (0, 0))) := (hb1.block _ lw1).trans (by have := own1 (w.alloc (.cells #[.int .i64 m, .int .i64 g, .slice p n c] 30)) (.cells #[.int .i64 0, .int .i64 0, .slice none 0 0] 30); rw [World.size_alloc] at this; exact this)
  have x0u1 : u1.cell? ⟨w.heap.size, 0, none⟩ = some (.int .i64 m) := Go.Joins.cell_of_block Xu1.out 0
  have p0u1 : u1.frozen? ⟨w.heap.size, 0, none⟩ = false := Go.Joins.unfrozen_of_block Xu1.out 0
  have z0u1 : u1.cell? ⟨w.heap.size + 1, 0, none⟩ = some (.int .i64 0) := Go.Joins.cell_of_block Zu1.out 0
  have q0u1 : u1.frozen? ⟨w.heap.size + 1, 0, none⟩ = false := Go.Joins.unfrozen_of_block Zu1.out 0
  have x1u1 : u1.cell? ⟨w.heap.size, 1, none⟩ = some (.int .i64 g) := Go.Joins.cell_of_block Xu1.out 1
  have p1u1 : u1.frozen? ⟨w.heap.size, 1, none⟩ = false := Go.Joins.unfrozen_of_block Xu1.out 1
  have z1u1 : u1.cell? ⟨w.heap.size + 1, 1, none⟩ = some (.int .i64 0) := Go.Joins.cell_of_block Zu1.out 1
  have q1u1 : u1.frozen? ⟨w.heap.size + 1, 1, none⟩ = false := Go.Joins.unfrozen_of_block Zu1.out 1
  have x2u1 : u1.cell? ⟨w.heap.size, 2, none⟩ = some (.slice p n c) := Go.Joins.cell_of_block Xu1.out 2
  have p2u1 : u1.frozen? ⟨w.heap.size, 2, none⟩ = false := Go.Joins.unfrozen_of_block Xu1.out 2
  have z2u1 : u1.cell? ⟨w.heap.size + 1, 2, none⟩ = some (.slice none 0 0) := Go.Joins.cell_of_block Zu1.out 2
  have q2u1 : u1.frozen? ⟨w.heap.size + 1, 2, none⟩ = false := Go.Joins.unfrozen_of_block Zu1.out 2
  clear hb1 lw0 lw1
  have hap : ∀ ty, (Builtin.append_ #[28, 28] ty #[.slice (some ⟨u1.heap.size, 0, none⟩) 0 0, .slice none 0 0]).run Try.prog ((((u1.setCell ⟨w.heap.size, 0, none⟩ (.int .i64 m)).setCell ⟨w.heap.size, 1, none⟩ (.int .i64 (g + 1))).setCell ⟨w.heap.size, 2, none⟩ (.slice none 0 0)).alloc (.cells #[] 41)) = .ok (.slice (some ⟨u1.heap.size, 0, none⟩) 0 0) ((((u1.setCell ⟨w.heap.size, 0, none⟩ (.int .i64 m)).setCell ⟨w.heap.size, 1, none⟩ (.int .i64 (g + 1))).setCell ⟨w.heap.size, 2, none⟩ (.slice none 0 0)).alloc (.cells #[] 41)) := fun ty => app_none 28 ty i0 zgv 41 Try.underlying28 hi hz0 _ _ _
  have SZ : Hid ((((u1.setCell ⟨w.heap.size, 0, none⟩ (.int .i64 m)).setCell ⟨w.heap.size, 1, none⟩ (.int .i64 (g + 1))).setCell ⟨w.heap.size, 2, none⟩ (.slice none 0 0)).heap.size = u1.heap.size) := by show _ = _; simp
  have OW : Hid ((((((u1.setCell ⟨w.heap.size, 0, none⟩ (.int .i64 m)).setCell ⟨w.heap.size, 1, none⟩ (.int .i64 (g + 1))).setCell ⟨w.heap.size, 2, none⟩ (.slice none 0 0)).alloc (.cells #[] 41)).alloc (.cells #[.int .i64 s, .bool true] 41)).ownsRow u1.heap.size 41 2 (.slice (some ⟨u1.heap.size, 0, none⟩) 0 0) 0 []) := own_keep (by have := own_start (((u1.setCell ⟨w.heap.size, 0, none⟩ (.int .i64 m)).setCell ⟨w.heap.size, 1, none⟩ (.int .i64 (g + 1))).setCell ⟨w.heap.size, 2, none⟩ (.slice none 0 0)); (try simp only [World.size_setCell] at this); exact this) (Go.Joins.below_alloc1 _ _)
  have NW : Hid (∀ j x, ([.int .i64 s, .bool true] : List Value)[j]? = some x → (((((u1.setCell ⟨w.heap.size, 0, none⟩ (.int .i64 m)).setCell ⟨w.heap.size, 1, none⟩ (.int .i64 (g + 1))).setCell ⟨w.heap.size, 2, none⟩ (.slice none 0 0)).alloc (.cells #[] 41)).alloc (.cells #[.int .i64 s, .bool true] 41)).cell? ((⟨u1.heap.size + 1, 0, none⟩ : Addr).add j) = some x) := by
    have := news_cells1 ((((u1.setCell ⟨w.heap.size, 0, none⟩ (.int .i64 m)).setCell ⟨w.heap.size, 1, none⟩ (.int .i64 (g + 1))).setCell ⟨w.heap.size, 2, none⟩ (.slice none 0 0)).alloc (.cells #[] 41)) #[.int .i64 s, .bool true] 41
    simp only [World.size_alloc, World.size_setCell] at this
    exact this
  have ON : Hid (∀ x ∈ ([.int .i64 s, .bool true] : List Value), x.oneCell' = true) := by show ∀ x ∈ ([.int .i64 s, .bool true] : List Value), x.oneCell' = true; simp [Value.oneCell']
  have HZ : Hid (u1.heap.size ≤ (((((u1.setCell ⟨w.heap.size, 0, none⟩ (.int .i64 m)).setCell ⟨w.heap.size, 1, none⟩ (.int .i64 (g + 1))).setCell ⟨w.heap.size, 2, none⟩ (.slice none 0 0)).alloc (.cells #[] 41)).alloc (.cells #[.int .i64 s, .bool true] 41)).heap.size) := by show _ ≤ _; rw [World.size_alloc]; rw [World.size_alloc, SZ.out]; omega
  have MX : Hid (0 + 1 ≤ maxLen) := by show _ ≤ _; unfold maxLen; omega
  have BY : Hid ((0 + 1) * 16 ≤ 140737488355328) := by show _ ≤ _; omega
  have BW : Hid (Below w.heap.size w (((((u1.setCell ⟨w.heap.size, 0, none⟩ (.int .i64 m)).setCell ⟨w.heap.size, 1, none⟩ (.int .i64 (g + 1))).setCell ⟨w.heap.size, 2, none⟩ (.slice none 0 0)).alloc (.cells #[] 41)).alloc (.cells #[.int .i64 s, .bool true] 41))) := below_new (below_new (bel_sc (bel_sc (bel_sc B1.out (by omega)) (by omega)) (by omega)) _) _
  have LA : Hid ((((((u1.setCell ⟨w.heap.size, 0, none⟩ (.int .i64 m)).setCell ⟨w.heap.size, 1, none⟩ (.int .i64 (g + 1))).setCell ⟨w.heap.size, 2, none⟩ (.slice none 0 0)).alloc (.cells #[] 41)).alloc (.cells #[.int .i64 s, .bool true] 41)).heap.size = u1.heap.size + 2) := by show _ = _; simp
  have XA : Hid ((((((u1.setCell ⟨w.heap.size, 0, none⟩ (.int .i64 m)).setCell ⟨w.heap.size, 1, none⟩ (.int .i64 (g + 1))).setCell ⟨w.heap.size, 2, none⟩ (.slice none 0 0)).alloc (.cells #[] 41)).alloc (.cells #[.int .i64 s, .bool true] 41)).heap[w.heap.size]? = some (.cells #[.int .i64 m, .int .i64 (g + 1), .slice none 0 0] 30 (0, 0))) := ((Go.Joins.below_alloc2 _ _ _).block _ (by rw [SZ.out]; omega)).trans (Go.Joins.block_setCell (Go.Joins.block_setCell (Go.Joins.block_setCell Xu1.out _) _) _)
  have ZA : Hid ((((((u1.setCell ⟨w.heap.size, 0, none⟩ (.int .i64 m)).setCell ⟨w.heap.size, 1, none⟩ (.int .i64 (g + 1))).setCell ⟨w.heap.size, 2, none⟩ (.slice none 0 0)).alloc (.cells #[] 41)).alloc (.cells #[.int .i64 s, .bool true] 41)).heap[w.heap.size + 1]? = some (.cells #[.int .i64 0, .int .i64 0, .slice none 0 0] 30 (0, 0))) := ((Go.Joins.below_alloc2 _ _ _).block _ (by rw [SZ.out]; omega)).trans ((Below.heap_setCell _ _ _ _ (by show w.heap.size + 1 ≠ w.heap.size; omega)).trans ((Below.heap_setCell _ _ _ _ (by show w.heap.size + 1 ≠ w.heap.size; omega)).trans ((Below.heap_setCell _ _ _ _ (by show w.heap.size + 1 ≠ w.heap.size; omega)).trans Zu1.out)))
  go_wp2_with (at_builtin; refine wpList_append_own _ rfl _ _ 28 rfl u1.heap.size 41 i0 zgv 2 16 Try.underlying28 hi hz0 hz1 hz2 rfl (by decide) (.slice (some ⟨u1.heap.size, 0, none⟩) 0 0) 0 [] rfl OW.out ⟨u1.heap.size + 1, 0, none⟩ 1 1 ([.int .i64 s, .bool true] : List Value) rfl rfl NW.out ON.out MX.out BY.out HZ.out ?_; intro v2 a1 hown hg hnil; have O2 : Hid (a1.ownsRow u1.heap.size 41 2 v2 (0 + 1) ([] ++ [.int .i64 s, .bool true])) := hown; have G2 : Hid ((((((u1.setCell ⟨w.heap.size, 0, none⟩ (.int .i64 m)).setCell ⟨w.heap.size, 1, none⟩ (.int .i64 (g + 1))).setCell ⟨w.heap.size, 2, none⟩ (.slice none 0 0)).alloc (.cells #[] 41)).alloc (.cells #[.int .i64 s, .bool true] 41)).grownBy a1 (some u1.heap.size)) := hg; clear hown hg hnil; obtain ⟨p2, c2, hv2, I2⟩ := gv_read (L := [Gv.mk s true]) O2.out; have I2' : Hid (IsGv a1 u1.heap.size p2 [Gv.mk s true]) := I2; clear I2; subst hv2; have B3 : Hid (Below w.heap.size w a1) := BW.out.grown G2.out BW.out.size (fun j ej => (by cases ej; omega)); have L2 : w.heap.size + 1 < a1.heap.size := Nat.lt_of_lt_of_le (by rw [LA.out]; omega) G2.out.size; have Xa1 : Hid (a1.heap[w.heap.size]? = some (.cells #[.int .i64 m, .int .i64 (g + 1), .slice none 0 0] 30 (0, 0))) := (G2.out.block _ (by rw [LA.out]; omega) (by simp; omega)).trans XA.out; have Za1 : Hid (a1.heap[w.heap.size + 1]? = some (.cells #[.int .i64 0, .int .i64 0, .slice none 0 0] 30 (0, 0))) := (G2.out.block _ (by rw [LA.out]; omega) (by simp; omega)).trans ZA.out; have x0a1 : a1.cell? ⟨w.heap.size, 0, none⟩ = some (.int .i64 m) := Go.Joins.cell_of_block Xa1.out 0; have p0a1 : a1.frozen? ⟨w.heap.size, 0, none⟩ = false := Go.Joins.unfrozen_of_block Xa1.out 0; have z0a1 : a1.cell? ⟨w.heap.size + 1, 0, none⟩ = some (.int .i64 0) := Go.Joins.cell_of_block Za1.out 0; have q0a1 : a1.frozen? ⟨w.heap.size + 1, 0, none⟩ = false := Go.Joins.unfrozen_of_block Za1.out 0; have x1a1 : a1.cell? ⟨w.heap.size, 1, none⟩ = some (.int .i64 (g + 1)) := Go.Joins.cell_of_block Xa1.out 1; have p1a1 : a1.frozen? ⟨w.heap.size, 1, none⟩ = false := Go.Joins.unfrozen_of_block Xa1.out 1; have z1a1 : a1.cell? ⟨w.heap.size + 1, 1, none⟩ = some (.int .i64 0) := Go.Joins.cell_of_block Za1.out 1; have q1a1 : a1.frozen? ⟨w.heap.size + 1, 1, none⟩ = false := Go.Joins.unfrozen_of_block Za1.out 1; have x2a1 : a1.cell? ⟨w.heap.size, 2, none⟩ = some (.slice none 0 0) := Go.Joins.cell_of_block Xa1.out 2; have p2a1 : a1.frozen? ⟨w.heap.size, 2, none⟩ = false := Go.Joins.unfrozen_of_block Xa1.out 2; have z2a1 : a1.cell? ⟨w.heap.size + 1, 2, none⟩ = some (.slice none 0 0) := Go.Joins.cell_of_block Za1.out 2; have q2a1 : a1.frozen? ⟨w.heap.size + 1, 2, none⟩ = false := Go.Joins.unfrozen_of_block Za1.out 2; clear O2 OW NW ON HZ MX BY BW G2 XA ZA LA)
  go_region
  go_wp2_with fail
  change bodyPost _ _ _ _ _ ((a1.setCell ⟨w.heap.size, 2, none⟩ (.slice p2 1 c2)).setCells (w.heap.size + 1) 0 [.int .i64 m, .int .i64 (g + 1), .slice p2 1 c2]).drew
  have TH : (a1.setCell ⟨w.heap.size, 2, none⟩ (.slice p2 1 c2)).there (w.heap.size + 1) 0 3 := there_block (((Below.heap_setCell _ _ _ _ (by show w.heap.size + 1 ≠ w.heap.size; omega)).trans Za1.out))
  have rg : ((a1.setCell ⟨w.heap.size, 2, none⟩ (.slice p2 1 c2)).setCells (w.heap.size + 1) 0 [.int .i64 m, .int .i64 (g + 1), .slice p2 1 c2]).drew.rangeAt (w.heap.size + 1) 0 [.int .i64 m, .int .i64 (g + 1), .slice p2 1 c2] := World.rangeAt_setCells_same _ (w.heap.size + 1) 0 [.int .i64 m, .int .i64 (g + 1), .slice p2 1 c2] TH
  have hr := run_loadVar_mid (P := Try.prog) (((a1.setCell ⟨w.heap.size, 2, none⟩ (.slice p2 1 c2)).setCells (w.heap.size + 1) 0 [.int .i64 m, .int .i64 (g + 1), .slice p2 1 c2]).drew) (w.heap.size + 1) 0 30 [.int .i64 m, .int .i64 (g + 1), .slice p2 1 c2] _ rg Try.underlying30 rfl tags_info
  refine bodyPost_ret (v := .tuple #[.agg #[.int .i64 m, .int .i64 (g + 1), .slice p2 1 c2], .int .i64 1, .bool true]) ?_ rfl ?_
  · exact results_three Try.results13 _ _ _ _ _ _ _ rfl rfl rfl hr
  · exact ⟨p2, c2, rfl, gv_drew ((gv_scs (gv_sc I2'.out (by omega)) (by omega) _).weak (by omega)), below_drew (bel_scs (bel_sc B3.out (by omega)) (by omega) _)⟩
end Go.Proofs.Ytbdakoijhpobdaa
