/- Boot maps: what a range has outside the cuts. -/
import Derived.Test.YtpfcpmhpekidkaaO6
namespace Go.Proofs.Ytpfcpmhpekidkaa.Bm
open Go.ChangeShapes Go.WideShapes Go.ChangeAt Go.RowKit Go.Maps
set_option linter.unusedSimpArgs false
set_option linter.unusedVariables false
set_option maxRecDepth 8000

/-- a list in the making, beside a box -/
structure RI (w0 : World) (b : Nat) (f t : Int) (A : List (Int × Int)) (v : Value) (W : World) : Prop where
  own : OR W w0.heap.size v A
  bel : Below w0.heap.size w0 W
  box : Blk W b [.int .i64 f, .int .i64 t] 30
  ne : v.ownBlock ≠ some b
  lb : w0.heap.size ≤ b
theorem RI.below {w0 W W' : World} {b : Nat} {f t : Int} {A : List (Int × Int)} {v : Value} (H : RI w0 b f t A v W) (hb : Below W.heap.size W W') : RI w0 b f t A v W' :=
  ⟨row_below H.own hb, below_then H.bel hb, H.box.below hb, H.ne, H.lb⟩
theorem RI.set {w0 W : World} {b : Nat} {f t : Int} {A : List (Int × Int)} {v : Value} (H : RI w0 b f t A v W) (f' : Int) : RI w0 b f' t A v (W.setCell ⟨b, 0, none⟩ (.int .i64 f')) :=
  ⟨row_keep H.own (fun g e => Below.heap_setCell _ _ _ _ (fun h => H.ne (by rw [e, h]))), H.bel.setCell (p := ⟨b, 0, none⟩) H.lb _, H.box.set 0 _, H.ne, H.lb⟩
theorem RI.app {w0 W : World} {b : Nat} {f t : Int} {A : List (Int × Int)} {v : Value} (H : RI w0 b f t A v W) (hA : A.length ≤ 1048576) (x : Int × Int) :
    ∃ v' W2, (Builtin.append_ #[25, 25] 25 #[v, .slice (some ⟨W.heap.size, 0, none⟩) 1 1]).run Try.prog (W.alloc (.cells #[.int .i64 x.1, .int .i64 x.2] 30)) = .ok v' W2 ∧ RI w0 b f t (A ++ [x]) v' W2 ∧ ∀ cb C T, Blk W cb C T → v.ownBlock ≠ some cb → Blk W2 cb C T := by
  obtain ⟨v', W2, r, ho, hg, hat⟩ := app_row eR_len eR_one (by decide) Try.underlying25 infoR rfl (by decide) w0.heap.size v A x hA W H.own H.bel.size
  have sz : W.heap.size < (W.alloc (.cells (eR x).toArray 30)).heap.size := by rw [World.size_alloc]; omega
  have kp : ∀ cb C T, Blk W cb C T → v.ownBlock ≠ some cb → Blk W2 cb C T := fun cb C T h n => by
    have h1 : Blk (W.alloc (.cells (eR x).toArray 30)) cb C T := h.below (Go.Joins.below_alloc1 _ _)
    exact (hg.block cb (blk_lt h1) (fun e => n e.symm)).trans h1
  refine ⟨v', W2, r, ⟨ho, (below_new H.bel _).grown hg (by rw [World.size_alloc]; have := H.bel.size; omega) (fun g e => (row_lt H.own g e).1), kp b _ _ H.box H.ne, ?_, H.lb⟩, kp⟩
  rcases hat with e | e
  · rw [e]; exact H.ne
  · rw [e]; intro h
    have := blk_lt H.box
    have := Option.some.inj h
    omega
theorem rest_stop {f t : Int} {C : List (Int × Int)} {k : Nat} (hk : k < C.length) (h : t ≤ C[k].1) : restL f t (C.drop k) = if f < t then [(f, t)] else [] := by
  rw [List.drop_eq_getElem_cons hk, restL, if_pos h]
theorem rest_go {f t : Int} {C : List (Int × Int)} {k : Nat} (hk : k < C.length) (h : C[k].1 < t) : restL f t (C.drop k) = (if f < C[k].1 then [(f, C[k].1)] else []) ++ restL C[k].2 t (C.drop (k + 1)) := by
  rw [List.drop_eq_getElem_cons hk, restL, if_neg (by omega)]
theorem rest_len : ∀ (C : List (Int × Int)) (f t : Int), (restL f t C).length ≤ C.length + 1
  | [], f, t => by unfold restL; split <;> simp
  | c :: C, f, t => by
    unfold restL
    have := rest_len C c.2 t
    split
    · split <;> simp
    · split <;> simp <;> omega
set_option maxHeartbeats 4000000 in
theorem append_rest (w0 : World) (lo : Nat) (lv cv : Value) (A C : List (Int × Int)) (f t : Int) (hA : A.length ≤ 200000) (hC : C.length ≤ 100000) (w : World) (HC : RL w0 lo cv C) (HA : OR w w0.heap.size lv A) (HB : Below w0.heap.size w0 w) :
    Calls Try.prog 25 #[lv, .agg #[.int .i64 f, .int .i64 t], cv] w fun e w' => ∃ v', e = .returned v' ∧ OR w' w0.heap.size v' (A ++ restL f t C) ∧ Below w0.heap.size w0 w' := by
  obtain ⟨p, c, hv, hc, _, rd⟩ := HC.form
  have RD : Hid (∀ i (hi : i < C.length), ∃ g o, p = some ⟨g, o, none⟩ ∧ lo ≤ g ∧ g < w0.heap.size ∧ ∀ j, j < 2 → w0.cell? ⟨g, o + i * 2 + j, none⟩ = (eR C[i])[j]?) := rd
  obtain ⟨n, hn⟩ : ∃ n, C.length = n := ⟨_, rfl⟩
  have HN : Hid (C.length = n) := hn
  rw [hn] at hv hC
  subst hv
  have HI : Hid (RI w0 w.heap.size f t A lv (w.alloc (.cells #[.int .i64 f, .int .i64 t] 30))) :=
    ⟨row_below HA (Go.Joins.below_alloc1 _ _), below_new HB _, Blk.made w [.int .i64 f, .int .i64 t] 30, (fun e => by have := (row_lt HA _ e).2; omega), HB.size⟩
  have HAL : Hid (A.length ≤ 200000) := hA
  obtain ⟨RES, hR⟩ : ∃ R, A ++ restL f t C = R := ⟨_, rfl⟩
  have E0 : Hid (A ++ restL f t (C.drop 0) = RES) := hR
  rw [hR]
  clear rd hc hn HC HA HB hR hA
  go_enter Try.func25, Try.ntmps25
  go_wp2_with fail
  generalize w.alloc (.cells #[.int .i64 f, .int .i64 t] 30) = w1 at *
  generalize w.heap.size = b at *
  go_loopw [0, 11] (fun v i W => ∃ (k : Nat) (f' : Int) (A' : List (Int × Int)), k ≤ n ∧ i = .int .i64 k ∧ Hid (RI w0 b f' t A' v W) ∧ Hid (A' ++ restL f' t (C.drop k) = RES) ∧ Hid (A'.length ≤ 200000 + k)) (fun _ i _ => n - (Go.RowKit.intOf i).toNat)
  case atStart => exact ⟨0, f, A, by omega, rfl, HI, E0, HAL⟩
  case round =>
    clear HI E0 HAL
    obtain ⟨k, f', A', hk, rfl, J, EQ, AL⟩ := hrel
    by_cases ck : k < n
    rotate_left
    · obtain rfl : k = n := by omega
      have d1 : decide ((k : Int) < (k : Int)) = false := by simp
      have FIN : Hid (A' ++ (if f' < t then [(f', t)] else []) = RES) := by have := EQ.out; rw [← HN.out, List.drop_length] at this; exact this
      have JW := J
      clear J EQ
      by_cases ct : f' < t
      · have g1 : decide (f' < t) = true := by simp [ct]
        have FIN2 : Hid (A' ++ [(f', t)] = RES) := by have := FIN.out; rw [if_pos ct] at this; exact this
        obtain ⟨v', W2, r, HR, _⟩ := JW.out.app (by have := AL.out; omega) (f', t)
        have HR2 : Hid _ := HR
        have z0 : wr.cell? ⟨b, 0, none⟩ = some (.int .i64 f') := JW.out.box.cell 0
        have z1 : wr.cell? ⟨b, 1, none⟩ = some (.int .i64 t) := JW.out.box.cell 1
        clear HR JW FIN ct
        go_wp2_with (at_builtin; refine wpList_app rfl _ _ 25 rfl u0 (.slice (some ⟨wr.heap.size, 0, none⟩) 1 1) rfl rfl v' W2 r ?_)
        go_ret
        exact ⟨v', rfl, by rw [← FIN2.out]; exact HR2.out.own, HR2.out.bel⟩
      · have g1 : decide (f' < t) = false := by simp; omega
        have FIN2 : Hid (A' = RES) := by have := FIN.out; rw [if_neg ct, List.append_nil] at this; exact this
        have z0 : wr.cell? ⟨b, 0, none⟩ = some (.int .i64 f') := JW.out.box.cell 0
        have z1 : wr.cell? ⟨b, 1, none⟩ = some (.int .i64 t) := JW.out.box.cell 1
        go_wp2_with fail
        go_ret
        exact ⟨u0, rfl, by rw [← FIN2.out]; exact JW.out.own, JW.out.bel⟩
    have d1 : decide ((k : Int) < (n : Int)) = true := by simp; omega
    have d0 : decide ((k : Int) < 0) = false := by simp
    have kS : k < C.length := by rw [HN.out]; exact ck
    obtain ⟨g, og, rfl, _, lg, rc⟩ := RD.out k kS
    have y0 : wr.cell? ⟨g, og + k * 2, none⟩ = some (.int .i64 C[k].1) := (World.cell?_of_block (J.out.bel.block g lg)).trans (rc 0 (by omega))
    have y1 : wr.cell? ⟨g, og + k * 2 + 1, none⟩ = some (.int .i64 C[k].2) := (World.cell?_of_block (J.out.bel.block g lg)).trans (rc 1 (by omega))
    have lgr : g < wr.heap.size := Nat.lt_of_lt_of_le lg J.out.bel.size
    have ST : Hid (∀ h : t ≤ C[k].1, A' ++ (if f' < t then [(f', t)] else []) = RES) := fun h => by have := EQ.out; rw [rest_stop kS h] at this; exact this
    have GO : Hid (∀ h : C[k].1 < t, A' ++ ((if f' < C[k].1 then [(f', C[k].1)] else []) ++ restL C[k].2 t (C.drop (k + 1))) = RES) := fun h => by have := EQ.out; rw [rest_go kS h] at this; exact this
    clear EQ rc lg
    generalize C[k].1 = c1 at y0 ST GO
    generalize C[k].2 = c2 at y1 GO
    have JB : Hid (RI w0 b f' t A' u0 (wr.alloc (.cells #[.int .i64 c1, .int .i64 c2] 30))) := J.out.below (Go.Joins.below_alloc1 _ _)
    have z0 : wr.cell? ⟨b, 0, none⟩ = some (.int .i64 f') := J.out.box.cell 0
    have z1 : wr.cell? ⟨b, 1, none⟩ = some (.int .i64 t) := J.out.box.cell 1
    have bl : b < wr.heap.size := blk_lt J.out.box
    have ZB : Hid (Blk (wr.alloc (.cells #[.int .i64 c1, .int .i64 c2] 30)) wr.heap.size [.int .i64 c1, .int .i64 c2] 30 ∧ u0.ownBlock ≠ some wr.heap.size) := ⟨Blk.made wr [.int .i64 c1, .int .i64 c2] 30, fun e => by have := (row_lt J.out.own _ e).2; omega⟩
    clear J
    by_cases cs : t ≤ c1
    · have e1 : decide (t ≤ c1) = true := by simp [cs]
      have FIN : Hid (A' ++ (if f' < t then [(f', t)] else []) = RES) := ST.out cs
      have JW := JB
      clear JB ST GO ZB
      go_upto_region 9 with fail
      clear z0 z1 y0 y1 bl lgr
      generalize wr.alloc (.cells #[.int .i64 c1, .int .i64 c2] 30) = wx at JW ⊢
      by_cases ct : f' < t
      · have g1 : decide (f' < t) = true := by simp [ct]
        have FIN2 : Hid (A' ++ [(f', t)] = RES) := by have := FIN.out; rw [if_pos ct] at this; exact this
        obtain ⟨v', W2, r, HR, _⟩ := JW.out.app (by have := AL.out; omega) (f', t)
        have HR2 : Hid _ := HR
        have z0 : wx.cell? ⟨b, 0, none⟩ = some (.int .i64 f') := JW.out.box.cell 0
        have z1 : wx.cell? ⟨b, 1, none⟩ = some (.int .i64 t) := JW.out.box.cell 1
        clear HR JW FIN ct
        go_wp2_with (at_builtin; refine wpList_app rfl _ _ 25 rfl u0 (.slice (some ⟨wx.heap.size, 0, none⟩) 1 1) rfl rfl v' W2 r ?_)
        go_ret
        exact ⟨v', rfl, by rw [← FIN2.out]; exact HR2.out.own, HR2.out.bel⟩
      · have g1 : decide (f' < t) = false := by simp; omega
        have FIN2 : Hid (A' = RES) := by have := FIN.out; rw [if_neg ct, List.append_nil] at this; exact this
        have z0 : wx.cell? ⟨b, 0, none⟩ = some (.int .i64 f') := JW.out.box.cell 0
        have z1 : wx.cell? ⟨b, 1, none⟩ = some (.int .i64 t) := JW.out.box.cell 1
        go_wp2_with fail
        go_ret
        exact ⟨u0, rfl, by rw [← FIN2.out]; exact JW.out.own, JW.out.bel⟩
    have e1 : decide (t ≤ c1) = false := by simp; omega
    have GO2 := GO.out (by omega)
    by_cases cf : f' < c1
    · have e2 : decide (f' < c1) = true := by simp [cf]
      rw [if_pos cf] at GO2
      have NX : Hid ((A' ++ [(f', c1)]) ++ restL c2 t (C.drop (k + 1)) = RES) := by show _ = _; rw [List.append_assoc]; exact GO2
      obtain ⟨v', W2, r, HR, kp⟩ := JB.out.app (by have := AL.out; omega) (f', c1)
      have Z2 := kp _ _ _ ZB.out.1 ZB.out.2
      rw [World.size_alloc] at r
      have s0 : W2.cell? ⟨b, 0, none⟩ = some (.int .i64 f') := HR.box.cell 0
      have s0f : W2.frozen? ⟨b, 0, none⟩ = false := HR.box.free 0
      have s1 : W2.cell? ⟨wr.heap.size, 1, none⟩ = some (.int .i64 c2) := Z2.cell 1
      have J2 : Hid (RI w0 b c2 t (A' ++ [(f', c1)]) v' (W2.setCell ⟨b, 0, none⟩ (.int .i64 c2))) := HR.set c2
      have AL2 : Hid ((A' ++ [(f', c1)]).length ≤ 200000 + (k + 1)) := by have := AL.out; show _ ≤ _; simp; omega
      clear HR kp Z2 JB ZB ST GO GO2 AL
      go_wp2_with (at_builtin; refine wpList_app rfl _ _ 25 rfl u0 (.slice (some ⟨wr.heap.size + 1, 0, none⟩) 1 1) rfl rfl v' W2 r ?_)
      go_roundw
      case rel => exact ⟨k + 1, c2, A' ++ [(f', c1)], by omega, by go_num, J2, NX, AL2⟩
      case measure => simp [Go.RowKit.intOf]; omega
    · have e2 : decide (f' < c1) = false := by simp; omega
      rw [if_neg cf, List.nil_append] at GO2
      have NX : Hid (A' ++ restL c2 t (C.drop (k + 1)) = RES) := GO2
      have zf : wr.frozen? ⟨b, 0, none⟩ = false := (World.frozen?_of_block (w := wr) (a := ⟨b, 0, none⟩) ((Go.Joins.below_alloc1 wr (.cells #[.int .i64 c1, .int .i64 c2] 30)).block b bl)).symm.trans (JB.out.box.free 0)
      have J2 : Hid (RI w0 b c2 t A' u0 ((wr.alloc (.cells #[.int .i64 c1, .int .i64 c2] 30)).setCell ⟨b, 0, none⟩ (.int .i64 c2))) := JB.out.set c2
      have J3 : Hid (RI w0 b c2 t A' u0 ((wr.setCell ⟨b, 0, none⟩ (.int .i64 c2)).alloc (.cells #[.int .i64 c1, .int .i64 c2] 30))) := by rw [← World.setCell_alloc_past _ _ _ _ bl]; exact J2
      have AL2 : Hid (A'.length ≤ 200000 + (k + 1)) := by have := AL.out; show _ ≤ _; omega
      clear J2 JB ZB ST GO GO2 AL
      go_wp2_with fail
      go_roundw
      case rel => exact ⟨k + 1, c2, A', by omega, by go_num, J3, NX, AL2⟩
      case measure => simp [Go.RowKit.intOf]; omega
end Go.Proofs.Ytpfcpmhpekidkaa.Bm
