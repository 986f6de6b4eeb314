/- Grants: Of, Lent. -/
import Derived.Test.YtenfdcjnfgjilaaS1
import Derived.Maps.AppendAt
namespace Go.Proofs.Ytenfdcjnfgjilaa
open Go.ChangeShapes Go.WideShapes Go.ChangeAt Go.RowKit Go.Maps
set_option linter.unusedSimpArgs false
set_option linter.unusedVariables false
set_option maxRecDepth 8000
set_option maxRecDepth 8000
set_option maxRecDepth 8000

theorem int_info5 : (Try.prog.info? 3).map (fun i => (i.zero, i.size, i.bytes)) = some (some (.int .i64 0), 1, 8) := by kernel_rfl
theorem info5 {P : Program} {e : TypeId} {z : Value} {s b : Nat} (h : (P.info? e).map (fun i => (i.zero, i.size, i.bytes)) = some (some z, s, b)) : ∃ i : TypeInfo, P.info? e = some i ∧ i.zero = some z ∧ i.size = s ∧ i.bytes = b := by
  cases hq : P.info? e with
  | none => simp [hq] at h
  | some i =>
    simp [hq] at h
    exact ⟨i, rfl, h.1, h.2.1, h.2.2⟩
theorem own_keep {w w' : World} {base n e s : Nat} {v : Value} {xs : List Value} (h : w.ownsRow base e s v n xs) (hb : Below w.heap.size w w') : w'.ownsRow base e s v n xs := by
  obtain ⟨h1, h2⟩ := h
  refine ⟨h1, ?_⟩
  rcases h2 with h2 | ⟨g', cap', cur, e1, e2, e3, e4⟩
  · exact Or.inl h2
  · have hg' : g' < w.heap.size := (Array.getElem?_eq_some_iff.1 e3).1
    exact Or.inr ⟨g', cap', cur, e1, e2, (hb.block g' hg').trans e3, e4⟩
theorem own_base {w : World} {base n e s : Nat} {v : Value} {xs : List Value} (h : w.ownsRow base e s v n xs) : ∀ j, v.ownBlock = some j → base ≤ j := by
  obtain ⟨h1, h2⟩ := h
  rcases h2 with h2 | ⟨g', cap', cur, e1, e2, e3, e4⟩
  · rw [h2.1]; intro j hj; cases hj
  · rw [e1]; intro j hj; cases hj; exact e2
theorem own2b (w : World) (o p : Obj) : ((w.alloc o).alloc p).heap[w.heap.size + 1]? = some p := by
  have := own1 (w.alloc o) p
  rw [World.size_alloc] at this; exact this
theorem news_cells (u : World) (o : Obj) (C : Array Value) (t : TypeId) : ∀ j x, C.toList[j]? = some x → ((u.alloc o).alloc (.cells C t)).cell? ((⟨u.heap.size + 1, 0, none⟩ : Addr).add j) = some x := by
  intro j x hx
  rw [Addr.add_mid, Nat.zero_add]
  exact (Go.Joins.cell_of_block (own2b u o (.cells C t)) j).trans (by simpa using hx)
theorem below_grown {w U a0 : World} {v : Value} {n e s : Nat} {xs : List Value} (B : Below w.heap.size w U) (O : U.ownsRow w.heap.size e s v n xs) (hg : U.grownBy a0 v.ownBlock) : Below w.heap.size w a0 :=
  B.grown hg B.size (fun j ej => own_base O j ej)
def ofP (g : Gr) (p : Int) : Bool := g.is && (g.fr == p || g.dst == p)
/-- the numbers of the grants from or to p -/
def ofL (T : Nat → Gr) (p : Int) : Nat → List Nat
  | 0 => []
  | m + 1 => ofL T p m ++ (if ofP (T m) p then [m] else [])
theorem of_len (T : Nat → Gr) (p : Int) : ∀ m, (ofL T p m).length ≤ m
  | 0 => by simp [ofL]
  | m + 1 => by
    have := of_len T p m
    simp only [ofL, List.length_append]
    split <;> simp <;> omega
theorem of_yes (T : Nat → Gr) (p : Int) (m : Nat) (h : ofP (T m) p = true) : ofL T p (m + 1) = ofL T p m ++ [m] := by rw [ofL, if_pos h]
theorem of_no (T : Nat → Gr) (p : Int) (m : Nat) (h : ofP (T m) p = false) : ofL T p (m + 1) = ofL T p m := by rw [ofL, if_neg (by rw [h]; simp), List.append_nil]
def numV (L : List Nat) : List Value := L.map fun (j : Nat) => Value.int .i64 (j : Int)
def lentP (g : Gr) (f p : Int) : Bool := g.tk && g.fr == f && g.pg == p
def lentN (T : Nat → Gr) (f p : Int) : Nat → Nat
  | 0 => 0
  | m + 1 => lentN T f p m + (if lentP (T m) f p then 1 else 0)
theorem lent_le (T : Nat → Gr) (f p : Int) : ∀ m, lentN T f p m ≤ m
  | 0 => by simp [lentN]
  | m + 1 => by have := lent_le T f p m; rw [lentN]; split <;> omega
theorem lent_yes (T : Nat → Gr) (f p : Int) (m : Nat) (h : lentP (T m) f p = true) : lentN T f p (m + 1) = lentN T f p m + 1 := by rw [lentN, if_pos h]
theorem lent_no (T : Nat → Gr) (f p : Int) (m : Nat) (h : lentP (T m) f p = false) : lentN T f p (m + 1) = lentN T f p m := by rw [lentN, if_neg (by rw [h]; simp), Nat.add_zero]
set_option maxHeartbeats 4000000 in
theorem lent_any (b : Nat) (T : Nat → Gr) (f p : Int) (w : World) (h : IsTab w b T) :
    Calls Try.prog 12 #[.pointer (some ⟨b, 0, none⟩), .int .i64 f, .int .i64 p] w fun e w' => e = .returned (.int .i64 (lentN T f p 256 : Nat)) ∧ Below w.heap.size w w' := by
  have RG : Hid (w.rangeAt b 0 (flatT T 256)) := flat_range h
  have IK : ∀ (k : Nat), k < 256 → ∀ (W : World), (Instr.index 25 (.agg (flatT T 256).toArray) (.int .i64 k)).run Try.prog W = .ok (.agg #[.int .i64 (T k).fr, .int .i64 (T k).pg, .int .i64 (T k).dst, .bool (T k).wr, .bool (T k).tk, .int .i64 (T k).att]) W := fun k hk W => ixk T k hk W
  have FL : Hid ((flatT T 256).length = 1536) := flat_len T 256
  have fl : (flatT T 256).length = 1536 := flat_len T 256
  clear h
  generalize hf : flatT T 256 = FT at RG IK FL fl
  clear hf
  have HA : Hid ((Try.prog.info? 25).map (·.size) = some 1536) := all_info
  go_enter Try.func12, Try.ntmps12
  go_wp2_with (refine load_pat b 0 FT (.array 256 24) ?hx ?hc ?hu ?hd ?hi ?rest; (case hx => rfl); (case hc => exact RG.out); (case hu => exact Try.underlying25); (case hd => rfl); (case hi => rw [FL.out]; exact HA.out))
  go_loopw [7, 14] (fun v x W => ∃ k : Nat, ∃ n : Int, k ≤ 256 ∧ x = .int .i64 k ∧ v = .int .i64 n ∧ Hid (n = (lentN T f p k : Nat)) ∧ Hid (Below w.heap.size w W)) (fun _ x _ => 256 - (intOf x).toNat)
  case atStart => exact ⟨0, 0, by omega, rfl, rfl, rfl, Below.refl _ _⟩
  case round =>
    obtain ⟨k, n, hk, rfl, rfl, HN, B⟩ := hrel
    by_cases hlt : k < 256
    · have hd : decide ((k : Int) < 256) = true := by simp; omega
      have n0 : 0 ≤ n := by have := HN.out; omega
      have n1 : n ≤ 256 := by have := HN.out; have := lent_le T f p k; omega
      have ik := IK k hlt
      clear IK RG
      obtain ⟨⟨lf, lp, ld, lw, lt, la⟩, h0⟩ : ∃ l, T k = l := ⟨_, rfl⟩
      rw [h0] at ik
      have H0 : Hid (T k = ⟨lf, lp, ld, lw, lt, la⟩) := h0
      clear h0
      simp only at ik
      cases lt
      · go_wp2_with fail
        go_roundw
        case rel => exact ⟨k + 1, n, by omega, by go_num, rfl, (HN.out.trans (by rw [lent_no T f p k (by rw [H0.out]; rfl)])), below_new B.out _⟩
        case measure => simp [intOf]; omega
      · by_cases c : lf = f
        · have cb : (lf == f) = true := by simp [c]
          by_cases d : lp = p
          · have db : (lp == p) = true := by simp [d]
            have HY : Hid (lentP ⟨lf, lp, ld, lw, true, la⟩ f p = true) := by show _ = _; simp [lentP, c, d]
            clear c d
            go_wp2_with fail
            go_roundw
            case rel => exact ⟨k + 1, n + 1, by omega, by go_num, by go_num, (by rw [lent_yes T f p k (by rw [H0.out]; exact HY.out)]; show _ = _; have := HN.out; omega), below_new B.out _⟩
            case measure => simp [intOf]; omega
          · have db : (lp == p) = false := by simp [d]
            have HY : Hid (lentP ⟨lf, lp, ld, lw, true, la⟩ f p = false) := by show _ = _; simp [lentP, d]
            clear c
            go_wp2_with fail
            go_roundw
            case rel => exact ⟨k + 1, n, by omega, by go_num, rfl, (HN.out.trans (by rw [lent_no T f p k (by rw [H0.out]; exact HY.out)])), below_new B.out _⟩
            case measure => simp [intOf]; omega
        · have cb : (lf == f) = false := by simp [c]
          have HY : Hid (lentP ⟨lf, lp, ld, lw, true, la⟩ f p = false) := by show _ = _; simp [lentP, c]
          go_wp2_with fail
          go_roundw
          case rel => exact ⟨k + 1, n, by omega, by go_num, rfl, (HN.out.trans (by rw [lent_no T f p k (by rw [H0.out]; exact HY.out)])), below_new B.out _⟩
          case measure => simp [intOf]; omega
    · obtain rfl : k = 256 := by omega
      go_wp2_with fail
      go_ret
      exact ⟨by rw [← HN.out]; rfl, B.out⟩
theorem new_cells (u : World) (C : Array Value) (t : TypeId) : ∀ j x, C.toList[j]? = some x → (u.alloc (.cells C t)).cell? ((⟨u.heap.size, 0, none⟩ : Addr).add j) = some x := by
  intro j x hx
  rw [Addr.add_mid, Nat.zero_add]
  exact (Go.Joins.cell_of_block (own1 u (.cells C t)) j).trans (by simpa using hx)
set_option maxHeartbeats 8000000 in
theorem of_any (b : Nat) (T : Nat → Gr) (p : Int) (w : World) (h : IsTab w b T) :
    Calls Try.prog 10 #[.pointer (some ⟨b, 0, none⟩), .int .i64 p] w fun e w' => ∃ v, e = .returned v ∧ w'.ownsRow w.heap.size 3 1 v (ofL T p 256).length (numV (ofL T p 256)) ∧ Below w.heap.size w w' := by
  obtain ⟨i0, hi, hz0, hz1, hz2⟩ := info5 int_info5
  have TH : Hid (∀ (l : Gr) (W : World), Calls Try.prog 27 #[l.val] W fun e w' => e = .returned (.bool l.is) ∧ w' = W.alloc (.cells l.enc.toArray 24)) := there_any
  have RG : Hid (w.rangeAt b 0 (flatT T 256)) := flat_range h
  have IK : ∀ (k : Nat), k < 256 → ∀ (W : World), (Instr.index 25 (.agg (flatT T 256).toArray) (.int .i64 k)).run Try.prog W = .ok (.agg #[.int .i64 (T k).fr, .int .i64 (T k).pg, .int .i64 (T k).dst, .bool (T k).wr, .bool (T k).tk, .int .i64 (T k).att]) W := fun k hk W => ixk T k hk W
  have FL : Hid ((flatT T 256).length = 1536) := flat_len T 256
  have fl : (flatT T 256).length = 1536 := flat_len T 256
  clear h
  generalize hf : flatT T 256 = FT at RG IK FL fl
  clear hf
  have HA : Hid ((Try.prog.info? 25).map (·.size) = some 1536) := all_info
  go_enter Try.func10, Try.ntmps10
  go_wp2_with (refine load_pat b 0 FT (.array 256 24) ?hx ?hc ?hu ?hd ?hi ?rest; (case hx => rfl); (case hc => exact RG.out); (case hu => exact Try.underlying25); (case hd => rfl); (case hi => rw [FL.out]; exact HA.out))
  go_loopw [5, 12] (fun v x W => ∃ k : Nat, k ≤ 256 ∧ x = .int .i64 k ∧ Hid (W.ownsRow w.heap.size 3 1 v (ofL T p k).length (numV (ofL T p k))) ∧ Hid (Below w.heap.size w W)) (fun _ x _ => 256 - (intOf x).toNat)
  case atStart => exact ⟨0, by omega, rfl, ⟨by simp [numV, ofL], Or.inl ⟨rfl, rfl⟩⟩, Below.refl _ _⟩
  case round =>
    obtain ⟨k, hk, rfl, O, B⟩ := hrel
    by_cases hlt : k < 256
    · have hd : decide ((k : Int) < 256) = true := by simp; omega
      have LN : Hid ((ofL T p k).length ≤ 256) := Nat.le_trans (of_len T p k) (by omega)
      have ik := IK k hlt
      clear IK RG
      obtain ⟨l, h0⟩ : ∃ l, T k = l := ⟨_, rfl⟩
      rw [h0] at ik
      have H0 : Hid (T k = l) := h0
      have tl := TH.out l
      have HO : Hid (ofP l p = (l.is && (l.fr == p || l.dst == p))) := rfl
      clear h0 TH
      obtain ⟨lf, lp, ld, lw, lt, la⟩ := l
      simp only [Gr.enc] at ik tl
      generalize Gr.is ⟨lf, lp, ld, lw, lt, la⟩ = z at tl HO
      have TL : Hid _ := tl
      clear tl
      cases z
      · go_wp2_with fail
        refine (TL.out _).mono ?_
        rintro e u1 ⟨rfl, hu⟩
        have x0 : u1.cell? ⟨wr.heap.size, 0, none⟩ = some (.int .i64 lf) := by rw [hu]; simp
        have x2 : u1.cell? ⟨wr.heap.size, 2, none⟩ = some (.int .i64 ld) := by rw [hu]; simp
        have lx : wr.heap.size < u1.heap.size := by rw [hu]; simp only [World.size_alloc]; omega
        have B1 : Hid (Below w.heap.size w u1) := by rw [hu]; exact below_new (below_new B.out _) _
        have O1 : Hid (u1.ownsRow w.heap.size 3 1 u5 (ofL T p k).length (numV (ofL T p k))) := by rw [hu]; exact own_keep O.out (Go.Joins.below_alloc2 _ _ _)
        clear hu O B TL
        go_wp2_with fail
        go_roundw
        case rel => exact ⟨k + 1, by omega, by go_num, (by rw [of_no T p k (by rw [H0.out]; rw [HO.out]; rfl)]; exact O1.out), B1⟩
        case measure => simp [intOf]; omega
      · by_cases c : lf = p
        · have cb : (lf == p) = true := by simp [c]
          have HY : Hid (ofP ⟨lf, lp, ld, lw, lt, la⟩ p = true) := by show _ = _; rw [HO.out]; simp [c]
          clear c
          go_wp2_with fail
          refine (TL.out _).mono ?_
          rintro e u1 ⟨rfl, hu⟩
          have x0 : u1.cell? ⟨wr.heap.size, 0, none⟩ = some (.int .i64 lf) := by rw [hu]; simp
          have x2 : u1.cell? ⟨wr.heap.size, 2, none⟩ = some (.int .i64 ld) := by rw [hu]; simp
          have lx : wr.heap.size < u1.heap.size := by rw [hu]; simp only [World.size_alloc]; omega
          have B1 : Hid (Below w.heap.size w u1) := by rw [hu]; exact below_new (below_new B.out _) _
          have O1 : Hid (u1.ownsRow w.heap.size 3 1 u5 (ofL T p k).length (numV (ofL T p k))) := by rw [hu]; exact own_keep O.out (Go.Joins.below_alloc2 _ _ _)
          clear hu O B TL
          have OW : Hid ((u1.alloc (.cells #[.int .i64 k] 3)).ownsRow w.heap.size 3 1 u5 (ofL T p k).length (numV (ofL T p k))) := own_keep O1.out (Go.Joins.below_alloc1 _ _)
          have NW : Hid (∀ j x, ([.int .i64 k] : List Value)[j]? = some x → (u1.alloc (.cells #[.int .i64 k] 3)).cell? ((⟨u1.heap.size, 0, none⟩ : Addr).add j) = some x) := new_cells u1 #[.int .i64 k] 3
          have ON : Hid (∀ x ∈ ([.int .i64 k] : List Value), x.oneCell' = true) := by show ∀ x ∈ ([.int .i64 k] : List Value), x.oneCell' = true; simp [Value.oneCell']
          have HZ : Hid (w.heap.size ≤ (u1.alloc (.cells #[.int .i64 k] 3)).heap.size) := by show _ ≤ _; rw [World.size_alloc]; have := B1.out.size; omega
          have MX : Hid ((ofL T p k).length + 1 ≤ maxLen) := by show _ ≤ _; unfold maxLen; have := LN.out; omega
          have BY : Hid (((ofL T p k).length + 1) * 8 ≤ 140737488355328) := by show _ ≤ _; have := LN.out; omega
          go_wp2_with (at_builtin; refine wpList_append_own _ rfl _ _ 35 rfl w.heap.size 3 i0 (.int .i64 0) 1 8 Try.underlying35 hi hz0 hz1 hz2 rfl (by decide) u5 ((ofL T p k).length) (numV (ofL T p k)) rfl OW.out ⟨u1.heap.size, 0, none⟩ 1 1 ([.int .i64 k] : List Value) rfl rfl NW.out ON.out MX.out BY.out HZ.out ?_; intro v1 a0 hown hg hnil; have O2 : Hid (a0.ownsRow w.heap.size 3 1 v1 ((ofL T p k).length + 1) (numV (ofL T p k) ++ [.int .i64 k])) := hown; have B2 : Hid (Below w.heap.size w a0) := below_grown (below_new B1.out _) OW.out hg; clear hown hg hnil OW NW ON HZ MX BY)
          go_wp2_with fail
          go_roundw
          case rel => exact ⟨k + 1, by omega, by go_num, (by rw [of_yes T p k (by rw [H0.out]; exact HY.out)]; have := O2.out; show World.ownsRow _ _ _ _ _ _ _; simpa [numV] using this), B2⟩
          case measure => simp [intOf]; omega
        · have cb : (lf == p) = false := by simp [c]
          by_cases d : ld = p
          · have db : (ld == p) = true := by simp [d]
            have HY : Hid (ofP ⟨lf, lp, ld, lw, lt, la⟩ p = true) := by show _ = _; rw [HO.out]; simp [d]
            clear d
            go_wp2_with fail
            refine (TL.out _).mono ?_
            rintro e u1 ⟨rfl, hu⟩
            have x0 : u1.cell? ⟨wr.heap.size, 0, none⟩ = some (.int .i64 lf) := by rw [hu]; simp
            have x2 : u1.cell? ⟨wr.heap.size, 2, none⟩ = some (.int .i64 ld) := by rw [hu]; simp
            have lx : wr.heap.size < u1.heap.size := by rw [hu]; simp only [World.size_alloc]; omega
            have B1 : Hid (Below w.heap.size w u1) := by rw [hu]; exact below_new (below_new B.out _) _
            have O1 : Hid (u1.ownsRow w.heap.size 3 1 u5 (ofL T p k).length (numV (ofL T p k))) := by rw [hu]; exact own_keep O.out (Go.Joins.below_alloc2 _ _ _)
            clear hu O B TL
            have OW : Hid ((u1.alloc (.cells #[.int .i64 k] 3)).ownsRow w.heap.size 3 1 u5 (ofL T p k).length (numV (ofL T p k))) := own_keep O1.out (Go.Joins.below_alloc1 _ _)
            have NW : Hid (∀ j x, ([.int .i64 k] : List Value)[j]? = some x → (u1.alloc (.cells #[.int .i64 k] 3)).cell? ((⟨u1.heap.size, 0, none⟩ : Addr).add j) = some x) := new_cells u1 #[.int .i64 k] 3
            have ON : Hid (∀ x ∈ ([.int .i64 k] : List Value), x.oneCell' = true) := by show ∀ x ∈ ([.int .i64 k] : List Value), x.oneCell' = true; simp [Value.oneCell']
            have HZ : Hid (w.heap.size ≤ (u1.alloc (.cells #[.int .i64 k] 3)).heap.size) := by show _ ≤ _; rw [World.size_alloc]; have := B1.out.size; omega
            have MX : Hid ((ofL T p k).length + 1 ≤ maxLen) := by show _ ≤ _; unfold maxLen; have := LN.out; omega
            have BY : Hid (((ofL T p k).length + 1) * 8 ≤ 140737488355328) := by show _ ≤ _; have := LN.out; omega
            go_wp2_with (at_builtin; refine wpList_append_own _ rfl _ _ 35 rfl w.heap.size 3 i0 (.int .i64 0) 1 8 Try.underlying35 hi hz0 hz1 hz2 rfl (by decide) u5 ((ofL T p k).length) (numV (ofL T p k)) rfl OW.out ⟨u1.heap.size, 0, none⟩ 1 1 ([.int .i64 k] : List Value) rfl rfl NW.out ON.out MX.out BY.out HZ.out ?_; intro v1 a0 hown hg hnil; have O2 : Hid (a0.ownsRow w.heap.size 3 1 v1 ((ofL T p k).length + 1) (numV (ofL T p k) ++ [.int .i64 k])) := hown; have B2 : Hid (Below w.heap.size w a0) := below_grown (below_new B1.out _) OW.out hg; clear hown hg hnil OW NW ON HZ MX BY)
            go_wp2_with fail
            go_roundw
            case rel => exact ⟨k + 1, by omega, by go_num, (by rw [of_yes T p k (by rw [H0.out]; exact HY.out)]; have := O2.out; show World.ownsRow _ _ _ _ _ _ _; simpa [numV] using this), B2⟩
            case measure => simp [intOf]; omega
          · have db : (ld == p) = false := by simp [d]
            have HY : Hid (ofP ⟨lf, lp, ld, lw, lt, la⟩ p = false) := by show _ = _; rw [HO.out]; simp [c, d]
            go_wp2_with fail
            refine (TL.out _).mono ?_
            rintro e u1 ⟨rfl, hu⟩
            have x0 : u1.cell? ⟨wr.heap.size, 0, none⟩ = some (.int .i64 lf) := by rw [hu]; simp
            have x2 : u1.cell? ⟨wr.heap.size, 2, none⟩ = some (.int .i64 ld) := by rw [hu]; simp
            have lx : wr.heap.size < u1.heap.size := by rw [hu]; simp only [World.size_alloc]; omega
            have B1 : Hid (Below w.heap.size w u1) := by rw [hu]; exact below_new (below_new B.out _) _
            have O1 : Hid (u1.ownsRow w.heap.size 3 1 u5 (ofL T p k).length (numV (ofL T p k))) := by rw [hu]; exact own_keep O.out (Go.Joins.below_alloc2 _ _ _)
            clear hu O B TL
            go_wp2_with fail
            go_roundw
            case rel => exact ⟨k + 1, by omega, by go_num, (by rw [of_no T p k (by rw [H0.out]; exact HY.out)]; exact O1.out), B1⟩
            case measure => simp [intOf]; omega
    · obtain rfl : k = 256 := by omega
      go_wp2_with fail
      go_ret
      exact ⟨_, rfl, O.out, B.out⟩
end Go.Proofs.Ytenfdcjnfgjilaa
