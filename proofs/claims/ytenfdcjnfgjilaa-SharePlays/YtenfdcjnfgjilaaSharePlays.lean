/- For any calls and process: behind each of any 80 calls just the grants are there that the document says, each is told so, and what is lent and got is what the document says; no condition. -/
import Derived.Test.YtenfdcjnfgjilaaRows
import Derived.ProofKit
import Derived.OpenShut
import Derived.Carry
import Derived.Test.YtenfdcjnfgjilaaE9
import Derived.Test.YtenfdcjnfgjilaaSX
import Derived.Sort.BigQuietIn
namespace Go.Proofs.Ytenfdcjnfgjilaa.sharePlays
open Go.ChangeShapes Go.WideShapes Go.ChangeAt Go.RowKit Go.Maps
set_option linter.unusedSimpArgs false
set_option linter.unusedVariables false
theorem own_drewN {w W : World} {b n : Nat} {T : Nat → Gr} (h : Own w W b T) : Own w (W.drewN n) b T := ⟨h.1, ⟨h.2.1.os, h.2.1.tape, h.2.1.output, h.2.1.size, h.2.1.block⟩, h.2.2⟩
theorem own_drew {w W : World} {b : Nat} {T : Nat → Gr} (h : Own w W b T) : Own w W.drew b T := ⟨h.1, ⟨h.2.1.os, h.2.1.tape, h.2.1.output, h.2.1.size, h.2.1.block⟩, h.2.2⟩
theorem isrow_drew {w : World} {base : Nat} {p : Option Addr} {L : List Nat} (h : IsRow w base p L) : IsRow w.drew base p L := h
theorem isrq_drew {w : World} {base : Nat} {p : Option Addr} {L : List Rq} (h : IsRq w base p L) : IsRq w.drew base p L := h
theorem get_zero {T : Nat → Gr} (hz : Zr T) {i : Int} (h : (getG T i).is = false) : getG T i = Gr.zero := by
  unfold getG at h ⊢
  by_cases c : 0 ≤ i ∧ i < 256
  · rw [if_pos c] at h ⊢; exact hz _ h
  · rw [if_neg c]

set_option maxRecDepth 8000 in
set_option maxHeartbeats 32000000 in
theorem walk (p0 : Option Addr) (n0 c0 : Nat) (A0 : Nat → Ac) (m0 : n0 ≤ maxLen) (a1 : Int) (w1 : (Lit.int .i64 a1).wf = true) (w : World) (H0 : IsActs w p0 n0 A0) :
    Calls Try.prog 3 #[.slice p0 n0 c0, .int .i64 a1] w fun e w' => e = .returned (.bool true) ∧ Below w.heap.size w w' := by
  have AW : Hid (∀ W : World, Calls Try.prog 8 #[] W fun e w' => e = .returned (.bool true) ∧ Below W.heap.size W w') := fun W => awake_any W
  obtain ⟨Zs, hz, hs, hzz⟩ := zeroT
  have M : Hid (Own w (w.alloc (.cells Zs 27)) w.heap.size zT) := ⟨IsTab.made w Zs hs hzz, Go.Joins.below_alloc1 _ _, Nat.le_refl _⟩
  have HA : Hid (IsActs w p0 n0 A0) := H0
  clear H0 hs hzz
  have mm : (n0 : Int) ≤ 9223372036854775807 := by have : maxLen ≤ 9223372036854775807 := by decide +kernel
                                                   omega
  have DOC : Hid (∀ (T : Nat → Gr) (q : Option Addr) (d : Nat) (K A B P : Int) (X : Bool) (W : World), IsTab W w.heap.size T → IsRq W (w.heap.size + 1) q (rowG T 256) → Calls Try.prog 9 #[.pointer (some ⟨w.heap.size, 0, none⟩), .slice q (rowG T 256).length d, .agg #[.int .i64 K, .int .i64 A, .int .i64 B, .int .i64 P, .bool X]] W fun e w' => (∃ p' c', e = .returned (.tuple #[.slice p' (rowG (doesT T K A B P X) 256).length c', .bool true]) ∧ IsRq w' (w.heap.size + 1) p' (rowG (doesT T K A B P X) 256)) ∧ IsTab w' w.heap.size (doesT T K A B P X) ∧ W.grownBy w' (some w.heap.size)) := fun T q d K A B P X W h hI => rdoes_any w.heap.size T (w.heap.size + 1) q d (by omega) K A B P X W h hI (by have := h.2.2; omega)
  have OFC : Hid (∀ (T : Nat → Gr) (W : World), IsTab W w.heap.size T → Calls Try.prog 10 #[.pointer (some ⟨w.heap.size, 0, none⟩), .int .i64 a1] W fun e w' => (∃ q c, e = .returned (.slice q (ofL T a1 256).length c) ∧ IsRow w' W.heap.size q (ofL T a1 256)) ∧ Below W.heap.size W w') := fun T W h => of_call w.heap.size T a1 W h
  have ROC : Hid (∀ (T : Nat → Gr) (q : Option Addr) (d : Nat) (W : World), IsRq W (w.heap.size + 1) q (rowG T 256) → Calls Try.prog 11 #[.slice q (rowG T 256).length d, .int .i64 a1] W fun e w' => (∃ p' c', e = .returned (.slice p' (ofL T a1 256).length c') ∧ IsRq w' W.heap.size p' ((ofL T a1 256).map (fun k => tellG (T k) (k : Nat)))) ∧ Below W.heap.size W w') := fun T q d W h => by
    have := rof_any (w.heap.size + 1) q d (rowG T 256) (row_len T 256) a1 W h
    rw [row_of] at this
    exact this.mono fun e w' ⟨p', c', h1, h2, h3⟩ => ⟨⟨p', c', by rw [h1, List.length_map], h2⟩, h3⟩
  have LEC : Hid (∀ (T : Nat → Gr) (x y : Int) (W : World), IsTab W w.heap.size T → Calls Try.prog 12 #[.pointer (some ⟨w.heap.size, 0, none⟩), .int .i64 x, .int .i64 y] W fun e w' => e = .returned (.int .i64 (lentN T x y 256 : Nat)) ∧ Below W.heap.size W w') := fun T x y W h => lent_any w.heap.size T x y W h
  have RLC : Hid (∀ (T : Nat → Gr), Zr T → ∀ (q : Option Addr) (d : Nat) (x y : Int) (W : World), IsRq W (w.heap.size + 1) q (rowG T 256) → Calls Try.prog 13 #[.slice q (rowG T 256).length d, .int .i64 x, .int .i64 y] W fun e w' => e = .returned (.int .i64 (lentN T x y 256 : Nat)) ∧ Below W.heap.size W w') := fun T hz q d x y W h => by
    have := rlent_any (w.heap.size + 1) q d (rowG T 256) (row_len T 256) x y W h
    rw [row_lent hz] at this; exact this
  have GTC : Hid (∀ (T : Nat → Gr) (i : Int) (W : World), IsTab W w.heap.size T → Calls Try.prog 14 #[.pointer (some ⟨w.heap.size, 0, none⟩), .int .i64 i] W fun e w' => e = .returned (.tuple #[(getG T i).val, .bool (getG T i).is]) ∧ Below W.heap.size W w') := fun T i W h => get_any w.heap.size T i W h
  have RFC : Hid (∀ (T : Nat → Gr) (q : Option Addr) (d : Nat) (i : Int) (W : World), IsRq W (w.heap.size + 1) q (rowG T 256) → Calls Try.prog 16 #[.slice q (rowG T 256).length d, .int .i64 i] W fun e w' => e = .returned (.tuple #[(findV T i).val, .bool (getG T i).is]) ∧ Below W.heap.size W w') := fun T q d i W h => rfind_row T (w.heap.size + 1) q d i W h
  have TC : Hid (∀ (l : Gr) (i : Int) (W : World), Calls Try.prog 15 #[l.val, .int .i64 i] W fun e w' => e = .returned (l.val7 i) ∧ Below W.heap.size W w') := told_any
  go_enter Try.func3, Try.ntmps3
  go_wp2_with fail
  refine (AW.out _).mono ?_
  rintro e u0 ⟨rfl, hb⟩
  have M1 : Hid (Own w u0 w.heap.size zT ∧ Zr zT) := ⟨(M.out.grow (Go.Joins.below_alloc1 _ _)).grow hb, zr_zero⟩
  clear hb M
  go_wp2_with fail
  go_loopw [6, 7] (fun s x W => ∃ (k sn sd : Nat) (T : Nat → Gr) (sq : Option Addr), k ≤ n0 ∧ k ≤ 80 ∧ s = .slice sq sn sd ∧ x = .int .i64 k ∧ Hid ((rowG T 256).length = sn) ∧ Hid (Own w W w.heap.size T ∧ Zr T) ∧ Hid (IsRq W (w.heap.size + 1) sq (rowG T 256))) (fun _ x _ => 80 - (intOf x).toNat)
  case atStart => exact ⟨0, 0, 0, zT, _, by omega, by omega, rfl, rfl, (by rw [row_zero]; rfl), M1, fun i hi => absurd hi (by rw [row_zero]; simp)⟩
  case round =>
    obtain ⟨k, sn, sd, T, sq, hk, hk6, rfl, rfl, hSN, hM, hR⟩ := hrel
    by_cases hlt : k < n0 ∧ k < 80
    · have hd : decide ((k : Int) < (n0 : Int)) = true := by simp; omega
      have hd2 : decide ((k : Int) < 80) = true := by simp; omega
      obtain ⟨b, o, rfl, lb, cc, fit⟩ := HA.out k hlt.1
      generalize A0 k = ac at cc fit
      obtain ⟨ak, aa, ab, ap, ax⟩ := ac
      have fa : -9223372036854775808 ≤ aa ∧ aa ≤ 9223372036854775807 := fit.2.1
      clear fit
      have lb' : b < wr.heap.size := Nat.lt_of_lt_of_le lb hM.out.1.2.1.size
      have c0 : wr.cell? ⟨b, o + k * 5, none⟩ = some (.int .i64 ak) := (hM.out.1.2.1.cell (p := ⟨b, _, none⟩) lb).trans (cc 0 _ rfl)
      have c1 : wr.cell? ⟨b, o + k * 5 + 1, none⟩ = some (.int .i64 aa) := (hM.out.1.2.1.cell (p := ⟨b, _, none⟩) lb).trans (cc 1 _ rfl)
      have c2 : wr.cell? ⟨b, o + k * 5 + 2, none⟩ = some (.int .i64 ab) := (hM.out.1.2.1.cell (p := ⟨b, _, none⟩) lb).trans (cc 2 _ rfl)
      have c3 : wr.cell? ⟨b, o + k * 5 + 3, none⟩ = some (.int .i64 ap) := (hM.out.1.2.1.cell (p := ⟨b, _, none⟩) lb).trans (cc 3 _ rfl)
      have c4 : wr.cell? ⟨b, o + k * 5 + 4, none⟩ = some (.bool ax) := (hM.out.1.2.1.cell (p := ⟨b, _, none⟩) lb).trans (cc 4 _ rfl)
      clear cc lb
      have DO2 := DOC.out T sq sd ak aa ab ap ax
      rw [hSN.out] at DO2
      have Z2 : Hid (Zr (doesT T ak aa ab ap ax)) := hM.out.2.does _ _ _ _ _
      generalize doesT T ak aa ab ap ax = T2 at DO2 Z2
      have DO3 : Hid _ := DO2
      clear DO2
      have lw0 : w.heap.size < wr.heap.size := hM.out.1.1.2.2
      go_wp2_with fail
      refine (DO3.out _ (hM.out.1.grow (Go.Joins.below_alloc1 _ _)).1 (hR.out.below (Go.Joins.below_alloc1 _ _))).mono ?_
      rintro e u1 ⟨⟨p1, d1, rfl, hI1⟩, h1, h2⟩
      have M1 : Hid (Own w u1 w.heap.size T2) := (hM.out.1.grow (Go.Joins.below_alloc1 _ _)).next h1 h2
      have R1 : Hid (IsRq u1 (w.heap.size + 1) p1 (rowG T2 256)) := hI1
      have AB1 : Hid (u1.heap[wr.heap.size]? = some (.cells #[.int .i64 ak, .int .i64 aa, .int .i64 ab, .int .i64 ap, .bool ax] 31 (0, 0))) := (h2.block _ (by simp) (fun e => by have := Option.some.inj e; omega)).trans (own1 wr _)
      clear h1 h2 hI1 lb' hM hR hSN DO3 c0 c1 c2 c3 c4
      generalize wr.heap.size = qb at AB1 lw0 ⊢
      have oc := OFC.out T2
      have rc := ROC.out T2 p1 d1
      have rl := RLC.out T2 Z2.out p1 d1 aa ap
      have le := LEC.out T2 aa ap
      have gtc := GTC.out T2
      have rf := RFC.out T2 p1 d1 aa
      have LM : Hid (∀ m, m < (ofL T2 a1 256).length → (ofL T2 a1 256).getD m 0 < 256 ∧ (T2 ((ofL T2 a1 256).getD m 0)).is = true) := fun m hm => by
        have hmem : (ofL T2 a1 256).getD m 0 ∈ (ofL T2 a1 256) := by
          rw [List.getD, List.getElem?_eq_getElem hm]; exact List.getElem_mem hm
        have := (mem_of T2 a1 _ 256).1 hmem
        refine ⟨this.1, ?_⟩
        have q := this.2
        unfold ofP at q
        simp only [Bool.and_eq_true] at q
        exact q.1
      have WA : Hid (∀ m, m < (ofL T2 a1 256).length → ((ofL T2 a1 256).map (fun k => tellG (T2 k) (k : Nat))).getD m Rq.zero = tellG (T2 ((ofL T2 a1 256).getD m 0)) (((ofL T2 a1 256).getD m 0 : Nat) : Int)) := fun m hm => by
        rw [List.getD, List.getElem?_map, List.getD, List.getElem?_eq_getElem hm]; simp
      have WL : Hid (((ofL T2 a1 256).map (fun k => tellG (T2 k) (k : Nat))).length = (ofL T2 a1 256).length) := List.length_map _
      have LN : Hid ((ofL T2 a1 256).length ≤ 256) := of_len T2 a1 256
      generalize lentN T2 aa ap 256 = lz at rl le
      generalize (ofL T2 a1 256) = L at oc rc LM WA WL LN
      generalize L.map (fun k => tellG (T2 k) (k : Nat)) = WW at rc WA WL
      obtain ⟨n, hn⟩ : ∃ n, L.length = n := ⟨_, rfl⟩
      have HN : Hid (L.length = n) := hn
      rw [hn] at oc rc LM WA WL LN
      obtain ⟨s1, hs1⟩ : ∃ z, (rowG T2 256).length = z := ⟨_, rfl⟩
      have HS1 : Hid ((rowG T2 256).length = s1) := hs1
      rw [hs1] at rc rl rf ⊢
      clear hn hs1
      have ln : n ≤ 256 := LN.out
      have OC : Hid _ := oc
      have RC : Hid _ := rc
      have RLH : Hid _ := rl
      have LEH : Hid _ := le
      have GTH : Hid _ := gtc
      have RFH : Hid _ := rf
      clear oc rc rl le gtc rf
      go_wp2_with fail
      refine (OC.out _ M1.out.1).mono ?_
      rintro e u2 ⟨⟨iq, id, rfl, hi2⟩, hb⟩
      have M2 : Hid (Own w u2 w.heap.size T2) := M1.out.grow hb
      have R2 : Hid (IsRq u2 (w.heap.size + 1) p1 (rowG T2 256)) := R1.out.below hb
      have D2 : Hid (IsRow u2 0 iq L) := hi2.weak (Nat.zero_le _)
      have AB2 : Hid (u2.heap[qb]? = some (.cells #[.int .i64 ak, .int .i64 aa, .int .i64 ab, .int .i64 ap, .bool ax] 31 (0, 0))) := (hb.block _ (Array.getElem?_eq_some_iff.1 AB1.out).1).trans AB1.out
      clear hb hi2 M1 R1 AB1
      go_wp2_with fail
      refine (RC.out _ R2.out).mono ?_
      rintro e u3 ⟨⟨wq, wd, rfl, hw3⟩, hb⟩
      have M3 : Hid (Own w u3 w.heap.size T2) := M2.out.grow hb
      have R3 : Hid (IsRq u3 (w.heap.size + 1) p1 (rowG T2 256)) := R2.out.below hb
      have D3 : Hid (IsRow u3 0 iq L) := D2.out.below hb
      have W3 : Hid (IsRq u3 0 wq WW) := hw3.weak (Nat.zero_le _)
      have AB3 : Hid (u3.heap[qb]? = some (.cells #[.int .i64 ak, .int .i64 aa, .int .i64 ab, .int .i64 ap, .bool ax] 31 (0, 0))) := (hb.block _ (Array.getElem?_eq_some_iff.1 AB2.out).1).trans AB2.out
      clear hb hw3 M2 R2 D2 AB2
      go_wp2_with fail
      refine wp_region_noPanic ?_
      refine wp_region_held_drew (S := fun c => c.cell? ⟨qb, 1, none⟩ = some (.int .i64 aa) ∧ c.cell? ⟨qb, 3, none⟩ = some (.int .i64 ap)) (by kernel_rfl) ?_ (fun hHeld => ?_)
      · exact ⟨cells9 AB3.out 1 _ rfl, cells9 AB3.out 3 _ rfl⟩
      have MU : Hid (Own w u3.drew w.heap.size T2) := own_drew M3.out
      have RU : Hid (IsRq u3.drew (w.heap.size + 1) p1 (rowG T2 256)) := isrq_drew R3.out
      have DU : Hid (IsRow u3.drew 0 iq L) := isrow_drew D3.out
      have WU : Hid (IsRq u3.drew 0 wq WW) := isrq_drew W3.out
      have AU : Hid (u3.drew.heap[qb]? = some (.cells #[.int .i64 ak, .int .i64 aa, .int .i64 ab, .int .i64 ap, .bool ax] 31 (0, 0))) := AB3.out
      clear M3 R3 D3 W3 AB3
      generalize u3.drew = U at MU RU DU WU AU hHeld ⊢
      refine wpAnyH_take (i := 0) (oi := ⟨some 50, _, _, _, _, none⟩) (v := ?_) rfl (by kernel_rfl) (by kernel_rfl) (by kernel_rfl) (fun _ _ _ h => h) (Or.inl ⟨by rfl, ?_⟩) (by assumption) ?_
      rotate_left
      · intro w hSw; (try dsimp only at hSw); go_simp; (try with_reducible rfl)
      try simp only [Act.put, List.setIfInBounds_toArray, List.set_cons_zero, List.set_cons_succ]
      refine wpAnyH_take (i := 1) (oi := ⟨some 51, _, _, _, _, none⟩) (v := ?_) rfl (by kernel_rfl) (by kernel_rfl) (by kernel_rfl) (fun _ _ _ h => h) (Or.inl ⟨by rfl, ?_⟩) (by assumption) ?_
      rotate_left
      · intro w hSw; (try dsimp only at hSw); go_simp; (try with_reducible rfl)
      try simp only [Act.put, List.setIfInBounds_toArray, List.set_cons_zero, List.set_cons_succ]
      refine wpAnyH_take (i := 2) (oi := ⟨some 52, _, _, _, _, none⟩) (v := ?_) rfl (by kernel_rfl) (by kernel_rfl) (by kernel_rfl) (fun _ _ _ h => h) (Or.inl ⟨by rfl, ?_⟩) (by assumption) ?_
      rotate_left
      · intro w hSw; (try dsimp only at hSw); go_simp; (try with_reducible rfl)
      try simp only [Act.put, List.setIfInBounds_toArray, List.set_cons_zero, List.set_cons_succ]
      refine wpAnyH_take (i := 3) (oi := ⟨some 53, _, _, _, _, some (2, false)⟩) (v := ?_) rfl (by kernel_rfl) (by kernel_rfl) (by kernel_rfl) (fun _ _ _ h => h) (Or.inl ⟨by rfl, ?_⟩) (by assumption) ?_
      rotate_left
      · intro w hSw; (try dsimp only at hSw); go_simp; (try with_reducible rfl)
      try simp only [Act.put, List.setIfInBounds_toArray, List.set_cons_zero, List.set_cons_succ]
      refine wpAnyH_take (i := 4) (oi := ⟨some 54, _, _, _, _, some (2, false)⟩) (v := ?_) rfl (by kernel_rfl) (by kernel_rfl) (by kernel_rfl) (fun _ _ _ h => h) (Or.inl ⟨by rfl, ?_⟩) (by assumption) ?_
      rotate_left
      · intro w hSw; (try dsimp only at hSw); go_simp; (try with_reducible rfl)
      try simp only [Act.put, List.setIfInBounds_toArray, List.set_cons_zero, List.set_cons_succ]
      refine wpAnyH_take (i := 5) (oi := ⟨some 55, _, _, _, _, some (2, false)⟩) (v := ?_) rfl (by kernel_rfl) (by kernel_rfl) (by kernel_rfl) (fun _ _ _ h => h) (Or.inl ⟨by rfl, ?_⟩) (by assumption) ?_
      rotate_left
      · intro w hSw; (try dsimp only at hSw); go_simp; (try with_reducible rfl)
      try simp only [Act.put, List.setIfInBounds_toArray, List.set_cons_zero, List.set_cons_succ]
      refine wpAnyH_take (i := 6) (oi := ⟨some 56, _, _, _, _, some (2, false)⟩) (v := ?_) rfl (by kernel_rfl) (by kernel_rfl) (by kernel_rfl) (fun _ _ _ h => h) (Or.inl ⟨by rfl, ?_⟩) (by assumption) ?_
      rotate_left
      · intro w hSw; (try dsimp only at hSw); go_simp; (try with_reducible rfl)
      try simp only [Act.put, List.setIfInBounds_toArray, List.set_cons_zero, List.set_cons_succ]
      refine wpAnyH_take (i := 7) (oi := ⟨some 57, _, _, _, _, some (2, false)⟩) (v := .bool false) rfl (by kernel_rfl) (by kernel_rfl) (by kernel_rfl) (fun _ _ _ h => h) (Or.inl ⟨by rfl, ?_⟩) (by assumption) ?_
      · intro w hSw; (try dsimp only at hSw); go_simp; (try simp); (try (simp only [IntKind.wrap_i64]; omega))
      try simp only [Act.put, List.setIfInBounds_toArray, List.set_cons_zero, List.set_cons_succ]
      refine wpAnyH_take (i := 8) (oi := ⟨some 58, _, _, _, _, none⟩) (v := ?_) rfl (by kernel_rfl) (by kernel_rfl) (by kernel_rfl) (fun _ _ _ h => h) (Or.inl ⟨by rfl, ?_⟩) (by assumption) ?_
      rotate_left
      · intro w hSw; (try dsimp only at hSw); go_simp; (try with_reducible rfl)
      try simp only [Act.put, List.setIfInBounds_toArray, List.set_cons_zero, List.set_cons_succ]
      refine wpAnyH_take (i := 9) (oi := ⟨some 59, _, _, _, _, none⟩) (v := ?_) rfl (by kernel_rfl) (by kernel_rfl) (by kernel_rfl) (fun _ _ _ h => h) (Or.inl ⟨by rfl, ?_⟩) (by assumption) ?_
      rotate_left
      · intro w hSw; (try dsimp only at hSw); go_simp; (try with_reducible rfl)
      try simp only [Act.put, List.setIfInBounds_toArray, List.set_cons_zero, List.set_cons_succ]
      refine wpAnyH_take (i := 10) (oi := ⟨some 60, _, _, _, _, some (9, false)⟩) (v := ?_) rfl (by kernel_rfl) (by kernel_rfl) (by kernel_rfl) (fun _ _ _ h => h) (Or.inl ⟨by rfl, ?_⟩) (by assumption) ?_
      rotate_left
      · intro w hSw; (try dsimp only at hSw); go_simp; (try with_reducible rfl)
      try simp only [Act.put, List.setIfInBounds_toArray, List.set_cons_zero, List.set_cons_succ]
      refine wpAnyH_take (i := 11) (oi := ⟨some 61, _, _, _, _, some (9, false)⟩) (v := (.int .i64 aa)) rfl (by kernel_rfl) (by kernel_rfl) (by kernel_rfl) (fun _ _ _ h => h) (Or.inl ⟨by rfl, ?_⟩) (by assumption) ?_
      · intro w hSw; (try dsimp only at hSw); have q0 : w.cell? ⟨qb, 1, none⟩ = some (.int .i64 aa) := hSw.1; go_simp; (try simp)
      try simp only [Act.put, List.setIfInBounds_toArray, List.set_cons_zero, List.set_cons_succ]
      refine wpAnyH_take (i := 12) (oi := ⟨some 62, _, _, _, _, some (9, false)⟩) (v := ?_) rfl (by kernel_rfl) (by kernel_rfl) (by kernel_rfl) (fun _ _ _ h => h) (Or.inl ⟨by rfl, ?_⟩) (by assumption) ?_
      rotate_left
      · intro w hSw; (try dsimp only at hSw); go_simp; (try with_reducible rfl)
      try simp only [Act.put, List.setIfInBounds_toArray, List.set_cons_zero, List.set_cons_succ]
      refine wpAnyH_take (i := 13) (oi := ⟨some 63, _, _, _, _, some (9, false)⟩) (v := (.int .i64 ap)) rfl (by kernel_rfl) (by kernel_rfl) (by kernel_rfl) (fun _ _ _ h => h) (Or.inl ⟨by rfl, ?_⟩) (by assumption) ?_
      · intro w hSw; (try dsimp only at hSw); have q0 : w.cell? ⟨qb, 3, none⟩ = some (.int .i64 ap) := hSw.2; go_simp; (try simp)
      try simp only [Act.put, List.setIfInBounds_toArray, List.set_cons_zero, List.set_cons_succ]
      refine wpAnyH_take (i := 15) (oi := ⟨some 65, _, _, _, _, some (9, false)⟩) (v := ?_) rfl (by kernel_rfl) (by kernel_rfl) (by kernel_rfl) (fun _ _ _ h => h) (Or.inl ⟨by rfl, ?_⟩) (by assumption) ?_
      rotate_left
      · intro w hSw; (try dsimp only at hSw); go_simp; (try with_reducible rfl)
      try simp only [Act.put, List.setIfInBounds_toArray, List.set_cons_zero, List.set_cons_succ]
      refine wpAnyH_take (i := 16) (oi := ⟨some 66, _, _, _, _, some (9, false)⟩) (v := ?_) rfl (by kernel_rfl) (by kernel_rfl) (by kernel_rfl) (fun _ _ _ h => h) (Or.inl ⟨by rfl, ?_⟩) (by assumption) ?_
      rotate_left
      · intro w hSw; (try dsimp only at hSw); go_simp; (try with_reducible rfl)
      try simp only [Act.put, List.setIfInBounds_toArray, List.set_cons_zero, List.set_cons_succ]
      refine wpAnyH_take (i := 17) (oi := ⟨some 67, _, _, _, _, some (9, false)⟩) (v := (.int .i64 aa)) rfl (by kernel_rfl) (by kernel_rfl) (by kernel_rfl) (fun _ _ _ h => h) (Or.inl ⟨by rfl, ?_⟩) (by assumption) ?_
      · intro w hSw; (try dsimp only at hSw); have q0 : w.cell? ⟨qb, 1, none⟩ = some (.int .i64 aa) := hSw.1; go_simp; (try simp)
      try simp only [Act.put, List.setIfInBounds_toArray, List.set_cons_zero, List.set_cons_succ]
      refine wpAnyH_take (i := 18) (oi := ⟨some 68, _, _, _, _, some (9, false)⟩) (v := ?_) rfl (by kernel_rfl) (by kernel_rfl) (by kernel_rfl) (fun _ _ _ h => h) (Or.inl ⟨by rfl, ?_⟩) (by assumption) ?_
      rotate_left
      · intro w hSw; (try dsimp only at hSw); go_simp; (try with_reducible rfl)
      try simp only [Act.put, List.setIfInBounds_toArray, List.set_cons_zero, List.set_cons_succ]
      refine wpAnyH_take (i := 19) (oi := ⟨some 69, _, _, _, _, some (9, false)⟩) (v := (.int .i64 ap)) rfl (by kernel_rfl) (by kernel_rfl) (by kernel_rfl) (fun _ _ _ h => h) (Or.inl ⟨by rfl, ?_⟩) (by assumption) ?_
      · intro w hSw; (try dsimp only at hSw); have q0 : w.cell? ⟨qb, 3, none⟩ = some (.int .i64 ap) := hSw.2; go_simp; (try simp)
      try simp only [Act.put, List.setIfInBounds_toArray, List.set_cons_zero, List.set_cons_succ]
      refine wpAnyH_ready (rs := [14]) (by kernel_rfl) (by simp) ?_
      refine AllReadyH.cons (o := ⟨some 64, _, _, _, _, some (9, false)⟩) rfl (fun K hK => ?_) AllReadyH.nil
      go_simp
      go_wp2_with (go_at_call 12; refine (LEH.out _ MU.out.1).mono ?_; rintro e v1 ⟨rfl, hb⟩)
      have MV : Hid (Own w v1 w.heap.size T2) := MU.out.grow hb
      have RV : Hid (IsRq v1 (w.heap.size + 1) p1 (rowG T2 256)) := RU.out.below hb
      have DV : Hid (IsRow v1 0 iq L) := DU.out.below hb
      have WV : Hid (IsRq v1 0 wq WW) := WU.out.below hb
      have AV : Hid (v1.heap[qb]? = some (.cells #[.int .i64 ak, .int .i64 aa, .int .i64 ab, .int .i64 ap, .bool ax] 31 (0, 0))) := (hb.block _ (Array.getElem?_eq_some_iff.1 AU.out).1).trans AU.out
      clear hb hHeld MU RU DU WU AU
      refine hK.out _ _ ⟨cells9 AV.out 1 _ rfl, cells9 AV.out 3 _ rfl⟩ (fun hHeld => ?_)
      clear hK K
      try simp only [Act.put, List.setIfInBounds_toArray, List.set_cons_zero, List.set_cons_succ]
      refine wpAnyH_ready (rs := [20]) (by kernel_rfl) (by simp) ?_
      refine AllReadyH.cons (o := ⟨some 70, _, _, _, _, some (9, false)⟩) rfl (fun K hK => ?_) AllReadyH.nil
      go_simp
      go_wp2_with (go_at_call 13; refine (RLH.out _ RV.out).mono ?_; rintro e v2 ⟨rfl, hb⟩)
      have MX : Hid (Own w v2 w.heap.size T2) := MV.out.grow hb
      have RX : Hid (IsRq v2 (w.heap.size + 1) p1 (rowG T2 256)) := RV.out.below hb
      have DX : Hid (IsRow v2 0 iq L) := DV.out.below hb
      have WX : Hid (IsRq v2 0 wq WW) := WV.out.below hb
      have AX : Hid (v2.heap[qb]? = some (.cells #[.int .i64 ak, .int .i64 aa, .int .i64 ab, .int .i64 ap, .bool ax] 31 (0, 0))) := (hb.block _ (Array.getElem?_eq_some_iff.1 AV.out).1).trans AV.out
      clear hb hHeld MV RV DV WV AV
      refine hK.out _ _ ⟨cells9 AX.out 1 _ rfl, cells9 AX.out 3 _ rfl⟩ (fun hHeld => ?_)
      clear hK K
      try simp only [Act.put, List.setIfInBounds_toArray, List.set_cons_zero, List.set_cons_succ]
      refine wpAnyH_take (i := 21) (oi := ⟨some 71, _, _, _, _, some (9, false)⟩) (v := .bool false) rfl (by kernel_rfl) (by kernel_rfl) (by kernel_rfl) (fun _ _ _ h => h) (Or.inl ⟨by rfl, ?_⟩) (by assumption) ?_
      · intro w hSw; (try dsimp only at hSw); go_simp; (try simp); (try (simp only [IntKind.wrap_i64]; omega))
      try simp only [Act.put, List.setIfInBounds_toArray, List.set_cons_zero, List.set_cons_succ]
      refine wpAnyH_take (i := 22) (oi := ⟨some 72, _, _, _, _, none⟩) (v := ?_) rfl (by kernel_rfl) (by kernel_rfl) (by kernel_rfl) (fun _ _ _ h => h) (Or.inl ⟨by rfl, ?_⟩) (by assumption) ?_
      rotate_left
      · intro w hSw; (try dsimp only at hSw); go_simp; (try with_reducible rfl)
      try simp only [Act.put, List.setIfInBounds_toArray, List.set_cons_zero, List.set_cons_succ]
      clear hHeld
      refine wpAnyH_done (by kernel_rfl) ?_ _
      refine NoPanic.normal ?_
      go_wp2_with fail
      go_loopw [75] (fun x W => ∃ (m : Nat), m ≤ n ∧ x = .int .i64 m ∧ Hid (Own w W w.heap.size T2) ∧ Hid (IsRq W (w.heap.size + 1) p1 (rowG T2 256)) ∧ Hid (IsRow W 0 iq L) ∧ Hid (IsRq W 0 wq WW) ∧ Hid (W.heap[qb]? = some (.cells #[.int .i64 ak, .int .i64 aa, .int .i64 ab, .int .i64 ap, .bool ax] 31 (0, 0)))) (fun x _ => n - (intOf x).toNat)
      case atStart => exact ⟨0, by omega, rfl, MX, RX, DX, WX, AX⟩
      case round =>
        obtain ⟨m, hm, rfl, hM3, hR3, hD3, hW3, hA3⟩ := hrel
        by_cases hlm : m < n
        · have hdm : decide ((m : Int) < (n : Int)) = true := by simp; omega
          have m0 : (0 : Int) ≤ (m : Int) := by omega
          have m1 : (m : Int) < (n : Int) := by omega
          obtain ⟨ig, rfl, _, ig2, ic⟩ := hD3.out m (by rw [HN.out]; exact hlm)
          obtain ⟨wg, rfl, _, wg2, wc'⟩ := hW3.out m (by rw [WL.out]; exact hlm)
          obtain ⟨lm1, lm2⟩ := LM.out m hlm
          rw [WA.out m hlm] at wc'
          generalize L.getD m 0 = kk at ic wc' lm1 lm2
          have gt0 := GTH.out (kk : Int)
          rw [show getG T2 (kk : Int) = T2 kk by unfold getG; rw [if_pos (by omega), Int.toNat_natCast], lm2] at gt0
          generalize T2 kk = l at gt0 wc'
          obtain ⟨gf, gp, gd, gw, gt, ga⟩ := l
          simp only [tellG] at wc'
          have GT0 : Hid _ := gt0
          have TC2 := TC.out ⟨gf, gp, gd, gw, gt, ga⟩ (kk : Int)
          have TC3 : Hid _ := TC2
          have y0 : wr.cell? ⟨wg, m * 7, none⟩ = some (.int .i64 (kk : Int)) := wc' 0 _ rfl
          have y1 : wr.cell? ⟨wg, m * 7 + 1, none⟩ = some (.int .i64 gf) := wc' 1 _ rfl
          have y2 : wr.cell? ⟨wg, m * 7 + 2, none⟩ = some (.int .i64 gp) := wc' 2 _ rfl
          have y3 : wr.cell? ⟨wg, m * 7 + 3, none⟩ = some (.int .i64 gd) := wc' 3 _ rfl
          have y4 : wr.cell? ⟨wg, m * 7 + 4, none⟩ = some (.bool gw) := wc' 4 _ rfl
          have y5 : wr.cell? ⟨wg, m * 7 + 5, none⟩ = some (.bool gt) := wc' 5 _ rfl
          have y6 : wr.cell? ⟨wg, m * 7 + 6, none⟩ = some (.int .i64 ga) := wc' 6 _ rfl
          have ic0 : (wr.alloc (.cells #[.int .i64 (kk : Int), .int .i64 gf, .int .i64 gp, .int .i64 gd, .bool gw, .bool gt, .int .i64 ga] 41)).cell? ⟨ig, m, none⟩ = some (.int .i64 (kk : Int)) := (World.cell?_alloc_lt _ _ _ ig2).trans ic
          have igw : ig < (wr.alloc (.cells #[.int .i64 (kk : Int), .int .i64 gf, .int .i64 gp, .int .i64 gd, .bool gw, .bool gt, .int .i64 ga] 41)).heap.size := by rw [World.size_alloc]; omega
          clear wc' gt0 TC2
          go_upto_region 18 with fail
          have MB : Hid (Own w (wr.alloc (.cells #[.int .i64 (kk : Int), .int .i64 gf, .int .i64 gp, .int .i64 gd, .bool gw, .bool gt, .int .i64 ga] 41)) w.heap.size T2) := hM3.out.grow (Go.Joins.below_alloc1 _ _)
          have RB : Hid (IsRq (wr.alloc (.cells #[.int .i64 (kk : Int), .int .i64 gf, .int .i64 gp, .int .i64 gd, .bool gw, .bool gt, .int .i64 ga] 41)) (w.heap.size + 1) p1 (rowG T2 256)) := hR3.out.below (Go.Joins.below_alloc1 _ _)
          have DB : Hid (IsRow (wr.alloc (.cells #[.int .i64 (kk : Int), .int .i64 gf, .int .i64 gp, .int .i64 gd, .bool gw, .bool gt, .int .i64 ga] 41)) 0 (some ⟨ig, 0, none⟩) L) := hD3.out.below (Go.Joins.below_alloc1 _ _)
          have WB : Hid (IsRq (wr.alloc (.cells #[.int .i64 (kk : Int), .int .i64 gf, .int .i64 gp, .int .i64 gd, .bool gw, .bool gt, .int .i64 ga] 41)) 0 (some ⟨wg, 0, none⟩) WW) := hW3.out.below (Go.Joins.below_alloc1 _ _)
          have AB : Hid ((wr.alloc (.cells #[.int .i64 (kk : Int), .int .i64 gf, .int .i64 gp, .int .i64 gd, .bool gw, .bool gt, .int .i64 ga] 41)).heap[qb]? = some (.cells #[.int .i64 ak, .int .i64 aa, .int .i64 ab, .int .i64 ap, .bool ax] 31 (0, 0))) := ((Go.Joins.below_alloc1 wr _).block _ (Array.getElem?_eq_some_iff.1 hA3.out).1).trans hA3.out
          have YB : Hid ((wr.alloc (.cells #[.int .i64 (kk : Int), .int .i64 gf, .int .i64 gp, .int .i64 gd, .bool gw, .bool gt, .int .i64 ga] 41)).heap[wr.heap.size]? = some (.cells #[.int .i64 (kk : Int), .int .i64 gf, .int .i64 gp, .int .i64 gd, .bool gw, .bool gt, .int .i64 ga] 41 (0, 0))) := own1 wr _
          clear hM3 hR3 hD3 hW3 hA3 y0 y1 y2 y3 y4 y5 y6 ic ig2 wg2
          generalize (wr.alloc (.cells #[.int .i64 (kk : Int), .int .i64 gf, .int .i64 gp, .int .i64 gd, .bool gw, .bool gt, .int .i64 ga] 41)) = V at MB RB DB WB AB YB ic0 igw ⊢
          generalize wr.heap.size = yb at YB ⊢
          go_wp2_with fail
          refine (GT0.out _ MB.out.1).mono ?_
          rintro e u4 ⟨rfl, hb⟩
          have M4 : Hid (Own w u4 w.heap.size T2) := MB.out.grow hb
          have R4 : Hid (IsRq u4 (w.heap.size + 1) p1 (rowG T2 256)) := RB.out.below hb
          have D4 : Hid (IsRow u4 0 (some ⟨ig, 0, none⟩) L) := DB.out.below hb
          have W4 : Hid (IsRq u4 0 (some ⟨wg, 0, none⟩) WW) := WB.out.below hb
          have A4 : Hid (u4.heap[qb]? = some (.cells #[.int .i64 ak, .int .i64 aa, .int .i64 ab, .int .i64 ap, .bool ax] 31 (0, 0))) := (hb.block _ (Array.getElem?_eq_some_iff.1 AB.out).1).trans AB.out
          have Y4 : Hid (u4.heap[yb]? = some (.cells #[.int .i64 (kk : Int), .int .i64 gf, .int .i64 gp, .int .i64 gd, .bool gw, .bool gt, .int .i64 ga] 41 (0, 0))) := (hb.block _ (Array.getElem?_eq_some_iff.1 YB.out).1).trans YB.out
          have ic4 : u4.cell? ⟨ig, m, none⟩ = some (.int .i64 (kk : Int)) := (hb.cell (p := ⟨ig, m, none⟩) igw).trans ic0
          have ig4 : ig < u4.heap.size := Nat.lt_of_lt_of_le igw hb.size
          clear hb MB RB DB WB AB YB ic0 igw
          have ly4 : yb < u4.heap.size := (Array.getElem?_eq_some_iff.1 Y4.out).1
          go_wp2_with fail
          have CA : Hid ((u4.alloc (.cells #[.int .i64 gf, .int .i64 gp, .int .i64 gd, .bool gw, .bool gt, .int .i64 ga] 24)).cell? ⟨ig, m, none⟩ = some (.int .i64 (kk : Int)) ∧ (∀ j x, ([.int .i64 (kk : Int), .int .i64 gf, .int .i64 gp, .int .i64 gd, .bool gw, .bool gt, .int .i64 ga] : List Value)[j]? = some x → (u4.alloc (.cells #[.int .i64 gf, .int .i64 gp, .int .i64 gd, .bool gw, .bool gt, .int .i64 ga] 24)).cell? ⟨yb, j, none⟩ = some x) ∧ (∀ j x, ([.int .i64 gf, .int .i64 gp, .int .i64 gd, .bool gw, .bool gt, .int .i64 ga] : List Value)[j]? = some x → (u4.alloc (.cells #[.int .i64 gf, .int .i64 gp, .int .i64 gd, .bool gw, .bool gt, .int .i64 ga] 24)).cell? ⟨u4.heap.size, j, none⟩ = some x)) := ⟨(World.cell?_alloc_lt _ _ _ ig4).trans ic4, fun j x hx => (World.cell?_alloc_lt _ _ _ ly4).trans ((Go.Joins.cell_of_block Y4.out j).trans (by simpa using hx)), fun j x hx => (Go.Joins.cell_of_block (own1 u4 _) j).trans (by simpa using hx)⟩
          have MU : Hid (Own w (u4.alloc (.cells #[.int .i64 gf, .int .i64 gp, .int .i64 gd, .bool gw, .bool gt, .int .i64 ga] 24)).drew w.heap.size T2) := own_drew (M4.out.grow (Go.Joins.below_alloc1 _ _))
          have RU : Hid (IsRq (u4.alloc (.cells #[.int .i64 gf, .int .i64 gp, .int .i64 gd, .bool gw, .bool gt, .int .i64 ga] 24)).drew (w.heap.size + 1) p1 (rowG T2 256)) := isrq_drew (R4.out.below (Go.Joins.below_alloc1 _ _))
          have DU : Hid (IsRow (u4.alloc (.cells #[.int .i64 gf, .int .i64 gp, .int .i64 gd, .bool gw, .bool gt, .int .i64 ga] 24)).drew 0 (some ⟨ig, 0, none⟩) L) := isrow_drew (D4.out.below (Go.Joins.below_alloc1 _ _))
          have WU : Hid (IsRq (u4.alloc (.cells #[.int .i64 gf, .int .i64 gp, .int .i64 gd, .bool gw, .bool gt, .int .i64 ga] 24)).drew 0 (some ⟨wg, 0, none⟩) WW) := isrq_drew (W4.out.below (Go.Joins.below_alloc1 _ _))
          have AU : Hid ((u4.alloc (.cells #[.int .i64 gf, .int .i64 gp, .int .i64 gd, .bool gw, .bool gt, .int .i64 ga] 24)).drew.heap[qb]? = some (.cells #[.int .i64 ak, .int .i64 aa, .int .i64 ab, .int .i64 ap, .bool ax] 31 (0, 0))) := ((Go.Joins.below_alloc1 u4 _).block _ (Array.getElem?_eq_some_iff.1 A4.out).1).trans A4.out
          have LU : Hid (ig < (u4.alloc (.cells #[.int .i64 gf, .int .i64 gp, .int .i64 gd, .bool gw, .bool gt, .int .i64 ga] 24)).drew.heap.size ∧ yb < (u4.alloc (.cells #[.int .i64 gf, .int .i64 gp, .int .i64 gd, .bool gw, .bool gt, .int .i64 ga] 24)).drew.heap.size ∧ u4.heap.size < (u4.alloc (.cells #[.int .i64 gf, .int .i64 gp, .int .i64 gd, .bool gw, .bool gt, .int .i64 ga] 24)).drew.heap.size) := ⟨by show ig < (u4.alloc (.cells #[.int .i64 gf, .int .i64 gp, .int .i64 gd, .bool gw, .bool gt, .int .i64 ga] 24)).heap.size; rw [World.size_alloc]; omega, by show yb < (u4.alloc (.cells #[.int .i64 gf, .int .i64 gp, .int .i64 gd, .bool gw, .bool gt, .int .i64 ga] 24)).heap.size; rw [World.size_alloc]; omega, by show u4.heap.size < (u4.alloc (.cells #[.int .i64 gf, .int .i64 gp, .int .i64 gd, .bool gw, .bool gt, .int .i64 ga] 24)).heap.size; rw [World.size_alloc]; omega⟩
          have CU : Hid ((u4.alloc (.cells #[.int .i64 gf, .int .i64 gp, .int .i64 gd, .bool gw, .bool gt, .int .i64 ga] 24)).drew.cell? ⟨ig, m, none⟩ = some (.int .i64 (kk : Int)) ∧ (∀ j x, ([.int .i64 (kk : Int), .int .i64 gf, .int .i64 gp, .int .i64 gd, .bool gw, .bool gt, .int .i64 ga] : List Value)[j]? = some x → (u4.alloc (.cells #[.int .i64 gf, .int .i64 gp, .int .i64 gd, .bool gw, .bool gt, .int .i64 ga] 24)).drew.cell? ⟨yb, j, none⟩ = some x) ∧ (∀ j x, ([.int .i64 gf, .int .i64 gp, .int .i64 gd, .bool gw, .bool gt, .int .i64 ga] : List Value)[j]? = some x → (u4.alloc (.cells #[.int .i64 gf, .int .i64 gp, .int .i64 gd, .bool gw, .bool gt, .int .i64 ga] 24)).drew.cell? ⟨u4.heap.size, j, none⟩ = some x)) := CA.out
          refine wp_region_noPanic ?_
          refine wp_region_held_drew (S := fun c => c.cell? ⟨ig, m, none⟩ = some (.int .i64 (kk : Int)) ∧ (∀ j x, ([.int .i64 (kk : Int), .int .i64 gf, .int .i64 gp, .int .i64 gd, .bool gw, .bool gt, .int .i64 ga] : List Value)[j]? = some x → c.cell? ⟨yb, j, none⟩ = some x) ∧ (∀ j x, ([.int .i64 gf, .int .i64 gp, .int .i64 gd, .bool gw, .bool gt, .int .i64 ga] : List Value)[j]? = some x → c.cell? ⟨u4.heap.size, j, none⟩ = some x)) (by kernel_rfl) ?_ (fun hHeld => ?_)
          · exact CA.out
          clear CA M4 R4 D4 W4 A4 Y4 ic4 ig4 ly4
          generalize (u4.alloc (.cells #[.int .i64 gf, .int .i64 gp, .int .i64 gd, .bool gw, .bool gt, .int .i64 ga] 24)).drew = U at MU RU DU WU AU LU CU hHeld ⊢
          refine wpAnyH_take (i := 0) (oi := ⟨some 88, _, _, _, _, none⟩) (v := ?_) rfl (by kernel_rfl) (by kernel_rfl) (by kernel_rfl) (fun _ _ _ h => h) (Or.inl ⟨by rfl, ?_⟩) (by assumption) ?_
          rotate_left
          · intro w hSw; (try dsimp only at hSw); go_simp; (try with_reducible rfl)
          try simp only [Act.put, List.setIfInBounds_toArray, List.set_cons_zero, List.set_cons_succ]
          refine wpAnyH_take (i := 1) (oi := ⟨some 89, _, _, _, _, none⟩) (v := ?_) rfl (by kernel_rfl) (by kernel_rfl) (by kernel_rfl) (fun _ _ _ h => h) (Or.inl ⟨by rfl, ?_⟩) (by assumption) ?_
          rotate_left
          · intro w hSw; (try dsimp only at hSw); go_simp; (try with_reducible rfl)
          try simp only [Act.put, List.setIfInBounds_toArray, List.set_cons_zero, List.set_cons_succ]
          refine wpAnyH_take (i := 2) (oi := ⟨some 90, _, _, _, _, none⟩) (v := (.pointer (some ⟨ig, m, none⟩))) rfl (by kernel_rfl) (by kernel_rfl) (by kernel_rfl) (fun _ _ _ h => h) (Or.inl ⟨by rfl, ?_⟩) (by assumption) ?_
          · intro w hSw; (try dsimp only at hSw); go_simp; (try simp); (try (simp only [IntKind.wrap_i64]; omega))
          try simp only [Act.put, List.setIfInBounds_toArray, List.set_cons_zero, List.set_cons_succ]
          refine wpAnyH_take (i := 3) (oi := ⟨some 91, _, _, _, _, none⟩) (v := (.int .i64 (kk : Int))) rfl (by kernel_rfl) (by kernel_rfl) (by kernel_rfl) (fun _ _ _ h => h) (Or.inl ⟨by rfl, ?_⟩) (by assumption) ?_
          · intro w hSw; (try dsimp only at hSw); have q0 : w.cell? ⟨ig, m, none⟩ = some (.int .i64 (kk : Int)) := hSw.1; go_simp; (try simp)
          try simp only [Act.put, List.setIfInBounds_toArray, List.set_cons_zero, List.set_cons_succ]
          refine wpAnyH_take (i := 4) (oi := ⟨some 92, _, _, _, _, none⟩) (v := ?_) rfl (by kernel_rfl) (by kernel_rfl) (by kernel_rfl) (fun _ _ _ h => h) (Or.inl ⟨by rfl, ?_⟩) (by assumption) ?_
          rotate_left
          · intro w hSw; (try dsimp only at hSw); go_simp; (try with_reducible rfl)
          try simp only [Act.put, List.setIfInBounds_toArray, List.set_cons_zero, List.set_cons_succ]
          refine wpAnyH_take (i := 5) (oi := ⟨some 93, _, _, _, _, none⟩) (v := (.int .i64 (kk : Int))) rfl (by kernel_rfl) (by kernel_rfl) (by kernel_rfl) (fun _ _ _ h => h) (Or.inl ⟨by rfl, ?_⟩) (by assumption) ?_
          · intro w hSw; (try dsimp only at hSw); have q0 : w.cell? ⟨yb, 0, none⟩ = some (.int .i64 (kk : Int)) := hSw.2.1 0 _ rfl; go_simp; (try simp)
          try simp only [Act.put, List.setIfInBounds_toArray, List.set_cons_zero, List.set_cons_succ]
          refine wpAnyH_take (i := 6) (oi := ⟨some 94, _, _, _, _, none⟩) (v := .bool false) rfl (by kernel_rfl) (by kernel_rfl) (by kernel_rfl) (fun _ _ _ h => h) (Or.inl ⟨by rfl, ?_⟩) (by assumption) ?_
          · intro w hSw; (try dsimp only at hSw); go_simp; (try simp); (try (simp only [IntKind.wrap_i64]; omega))
          try simp only [Act.put, List.setIfInBounds_toArray, List.set_cons_zero, List.set_cons_succ]
          refine wpAnyH_take (i := 7) (oi := ⟨some 95, _, _, _, _, none⟩) (v := ?_) rfl (by kernel_rfl) (by kernel_rfl) (by kernel_rfl) (fun _ _ _ h => h) (Or.inl ⟨by rfl, ?_⟩) (by assumption) ?_
          rotate_left
          · intro w hSw; (try dsimp only at hSw); go_simp; (try with_reducible rfl)
          try simp only [Act.put, List.setIfInBounds_toArray, List.set_cons_zero, List.set_cons_succ]
          refine wpAnyH_take (i := 8) (oi := ⟨some 96, _, _, _, _, some (7, false)⟩) (v := ?_) rfl (by kernel_rfl) (by kernel_rfl) (by kernel_rfl) (fun _ _ _ h => h) (Or.inl ⟨by rfl, ?_⟩) (by assumption) ?_
          rotate_left
          · intro w hSw; (try dsimp only at hSw); go_simp; (try with_reducible rfl)
          try simp only [Act.put, List.setIfInBounds_toArray, List.set_cons_zero, List.set_cons_succ]
          refine wpAnyH_take (i := 9) (oi := ⟨some 97, _, _, _, _, some (7, false)⟩) (v := ?_) rfl (by kernel_rfl) (by kernel_rfl) (by kernel_rfl) (fun _ _ _ h => h) (Or.inl ⟨by rfl, ?_⟩) (by assumption) ?_
          rotate_left
          · intro w hSw; (try dsimp only at hSw); go_simp; (try with_reducible rfl)
          try simp only [Act.put, List.setIfInBounds_toArray, List.set_cons_zero, List.set_cons_succ]
          refine wpAnyH_take (i := 10) (oi := ⟨some 98, _, _, _, _, none⟩) (v := ?_) rfl (by kernel_rfl) (by kernel_rfl) (by kernel_rfl) (fun _ _ _ h => h) (Or.inl ⟨by rfl, ?_⟩) (by assumption) ?_
          rotate_left
          · intro w hSw; (try dsimp only at hSw); go_simp; (try with_reducible rfl)
          try simp only [Act.put, List.setIfInBounds_toArray, List.set_cons_zero, List.set_cons_succ]
          refine wpAnyH_take (i := 11) (oi := ⟨some 99, _, _, _, _, none⟩) (v := ?_) rfl (by kernel_rfl) (by kernel_rfl) (by kernel_rfl) (fun _ _ _ h => h) (Or.inl ⟨by rfl, ?_⟩) (by assumption) ?_
          rotate_left
          · intro w hSw; (try dsimp only at hSw); go_simp; (try with_reducible rfl)
          try simp only [Act.put, List.setIfInBounds_toArray, List.set_cons_zero, List.set_cons_succ]
          refine wpAnyH_take (i := 12) (oi := ⟨some 100, _, _, _, _, some (11, false)⟩) (v := .agg #[.int .i64 gf, .int .i64 gp, .int .i64 gd, .bool gw, .bool gt, .int .i64 ga]) rfl (by kernel_rfl) (by kernel_rfl) (by kernel_rfl) (fun _ _ _ h => h) (Or.inl ⟨by rfl, ?_⟩) (by assumption) ?_
          · intro w hSw; (try dsimp only at hSw); have q0 : w.cell? ⟨u4.heap.size, 0, none⟩ = some (.int .i64 gf) := hSw.2.2 0 _ rfl; have q1 : w.cell? ⟨u4.heap.size, 1, none⟩ = some (.int .i64 gp) := hSw.2.2 1 _ rfl; have q2 : w.cell? ⟨u4.heap.size, 2, none⟩ = some (.int .i64 gd) := hSw.2.2 2 _ rfl; have q3 : w.cell? ⟨u4.heap.size, 3, none⟩ = some (.bool gw) := hSw.2.2 3 _ rfl; have q4 : w.cell? ⟨u4.heap.size, 4, none⟩ = some (.bool gt) := hSw.2.2 4 _ rfl; have q5 : w.cell? ⟨u4.heap.size, 5, none⟩ = some (.int .i64 ga) := hSw.2.2 5 _ rfl; go_simp; (try simp)
          try simp only [Act.put, List.setIfInBounds_toArray, List.set_cons_zero, List.set_cons_succ]
          refine wpAnyH_take (i := 13) (oi := ⟨some 101, _, _, _, _, some (11, false)⟩) (v := ?_) rfl (by kernel_rfl) (by kernel_rfl) (by kernel_rfl) (fun _ _ _ h => h) (Or.inl ⟨by rfl, ?_⟩) (by assumption) ?_
          rotate_left
          · intro w hSw; (try dsimp only at hSw); go_simp; (try with_reducible rfl)
          try simp only [Act.put, List.setIfInBounds_toArray, List.set_cons_zero, List.set_cons_succ]
          refine wpAnyH_take (i := 14) (oi := ⟨some 102, _, _, _, _, some (11, false)⟩) (v := (.int .i64 (kk : Int))) rfl (by kernel_rfl) (by kernel_rfl) (by kernel_rfl) (fun _ _ _ h => h) (Or.inl ⟨by rfl, ?_⟩) (by assumption) ?_
          · intro w hSw; (try dsimp only at hSw); have q0 : w.cell? ⟨yb, 0, none⟩ = some (.int .i64 (kk : Int)) := hSw.2.1 0 _ rfl; go_simp; (try simp)
          try simp only [Act.put, List.setIfInBounds_toArray, List.set_cons_zero, List.set_cons_succ]
          refine wpAnyH_take (i := 16) (oi := ⟨some 104, _, _, _, _, some (11, false)⟩) (v := .agg #[.int .i64 (kk : Int), .int .i64 gf, .int .i64 gp, .int .i64 gd, .bool gw, .bool gt, .int .i64 ga]) rfl (by kernel_rfl) (by kernel_rfl) (by kernel_rfl) (fun _ _ _ h => h) (Or.inl ⟨by rfl, ?_⟩) (by assumption) ?_
          · intro w hSw; (try dsimp only at hSw); have q0 : w.cell? ⟨yb, 0, none⟩ = some (.int .i64 (kk : Int)) := hSw.2.1 0 _ rfl; have q1 : w.cell? ⟨yb, 1, none⟩ = some (.int .i64 gf) := hSw.2.1 1 _ rfl; have q2 : w.cell? ⟨yb, 2, none⟩ = some (.int .i64 gp) := hSw.2.1 2 _ rfl; have q3 : w.cell? ⟨yb, 3, none⟩ = some (.int .i64 gd) := hSw.2.1 3 _ rfl; have q4 : w.cell? ⟨yb, 4, none⟩ = some (.bool gw) := hSw.2.1 4 _ rfl; have q5 : w.cell? ⟨yb, 5, none⟩ = some (.bool gt) := hSw.2.1 5 _ rfl; have q6 : w.cell? ⟨yb, 6, none⟩ = some (.int .i64 ga) := hSw.2.1 6 _ rfl; go_simp; (try simp)
          try simp only [Act.put, List.setIfInBounds_toArray, List.set_cons_zero, List.set_cons_succ]
          refine wpAnyH_ready (rs := [15]) (by kernel_rfl) (by simp) ?_
          refine AllReadyH.cons (o := ⟨some 103, _, _, _, _, some (11, false)⟩) rfl (fun K hK => ?_) AllReadyH.nil
          go_simp
          go_wp2_with (go_at_call 15; refine (TC3.out _).mono ?_; rintro e v1 ⟨rfl, hb⟩)
          have MV : Hid (Own w v1 w.heap.size T2) := MU.out.grow hb
          have RV : Hid (IsRq v1 (w.heap.size + 1) p1 (rowG T2 256)) := RU.out.below hb
          have DV : Hid (IsRow v1 0 (some ⟨ig, 0, none⟩) L) := DU.out.below hb
          have WV : Hid (IsRq v1 0 (some ⟨wg, 0, none⟩) WW) := WU.out.below hb
          have AV : Hid (v1.heap[qb]? = some (.cells #[.int .i64 ak, .int .i64 aa, .int .i64 ab, .int .i64 ap, .bool ax] 31 (0, 0))) := (hb.block _ (Array.getElem?_eq_some_iff.1 AU.out).1).trans AU.out
          have C1 : Hid (v1.cell? ⟨ig, m, none⟩ = some (.int .i64 (kk : Int)) ∧ (∀ j x, ([.int .i64 (kk : Int), .int .i64 gf, .int .i64 gp, .int .i64 gd, .bool gw, .bool gt, .int .i64 ga] : List Value)[j]? = some x → v1.cell? ⟨yb, j, none⟩ = some x) ∧ (∀ j x, ([.int .i64 gf, .int .i64 gp, .int .i64 gd, .bool gw, .bool gt, .int .i64 ga] : List Value)[j]? = some x → v1.cell? ⟨u4.heap.size, j, none⟩ = some x)) := ⟨(hb.cell (p := ⟨ig, m, none⟩) LU.out.1).trans CU.out.1, fun j x hx => (hb.cell (p := ⟨yb, j, none⟩) LU.out.2.1).trans (CU.out.2.1 j x hx), fun j x hx => (hb.cell (p := ⟨u4.heap.size, j, none⟩) LU.out.2.2).trans (CU.out.2.2 j x hx)⟩
          clear hb hHeld MU RU DU WU AU LU CU
          refine hK.out _ _ C1.out (fun hHeld => ?_)
          clear hK K
          try simp only [Act.put, List.setIfInBounds_toArray, List.set_cons_zero, List.set_cons_succ]
          refine wpAnyH_take (i := 17) (oi := ⟨some 105, _, _, _, _, some (11, false)⟩) (v := .bool false) rfl (by kernel_rfl) (by kernel_rfl) (by kernel_rfl) (fun _ _ _ h => h) (Or.inl ⟨by rfl, ?_⟩) (by assumption) ?_
          · intro w hSw; (try dsimp only at hSw); go_simp; (try simp); (try (simp only [IntKind.wrap_i64]; omega))
          try simp only [Act.put, List.setIfInBounds_toArray, List.set_cons_zero, List.set_cons_succ]
          refine wpAnyH_take (i := 18) (oi := ⟨some 106, _, _, _, _, none⟩) (v := ?_) rfl (by kernel_rfl) (by kernel_rfl) (by kernel_rfl) (fun _ _ _ h => h) (Or.inl ⟨by rfl, ?_⟩) (by assumption) ?_
          rotate_left
          · intro w hSw; (try dsimp only at hSw); go_simp; (try with_reducible rfl)
          try simp only [Act.put, List.setIfInBounds_toArray, List.set_cons_zero, List.set_cons_succ]
          clear hHeld C1
          refine wpAnyH_done (by kernel_rfl) ?_ _
          refine NoPanic.normal ?_
          go_wp2_with fail
          go_roundw
          case rel => exact ⟨m + 1, by omega, by go_num, MV, RV, DV, WV, AV⟩
          case measure => simp [intOf]; omega
        · have hdm : decide ((m : Int) < (n : Int)) = false := by simp; omega
          obtain rfl : m = n := by omega
          clear LM WA WL LN
          have gta := GTH.out aa
          cases hz : (getG T2 aa).is
          · rw [hz, get_zero Z2.out hz] at gta
            rw [findV_no hz, hz] at RFH
            simp only [Rq.zero, Gr.zero] at gta RFH
            have GTA : Hid _ := gta
            clear gta hz
            have xa1 : wr.cell? ⟨qb, 1, none⟩ = some (.int .i64 aa) := cells9 hA3.out 1 _ rfl
            have lq : qb < wr.heap.size := (Array.getElem?_eq_some_iff.1 hA3.out).1
            go_wp2_with fail
            refine (GTA.out _ hM3.out.1).mono ?_
            rintro e u4 ⟨rfl, hb⟩
            have M4 : Hid (Own w u4 w.heap.size T2) := hM3.out.grow hb
            have R4 : Hid (IsRq u4 (w.heap.size + 1) p1 (rowG T2 256)) := hR3.out.below hb
            have A4 : Hid (u4.heap[qb]? = some (.cells #[.int .i64 ak, .int .i64 aa, .int .i64 ab, .int .i64 ap, .bool ax] 31 (0, 0))) := (hb.block _ (Array.getElem?_eq_some_iff.1 hA3.out).1).trans hA3.out
            have xa2 : u4.cell? ⟨qb, 1, none⟩ = some (.int .i64 aa) := cells9 A4.out 1 _ rfl
            have lq4 : qb < u4.heap.size := (Array.getElem?_eq_some_iff.1 A4.out).1
            clear hb hM3 hR3 hA3 hD3 hW3 xa1 lq
            go_wp2_with fail
            refine (RFH.out _ (R4.out.below (Go.Joins.below_alloc1 _ _))).mono ?_
            rintro e u5 ⟨rfl, hb⟩
            have M5 : Hid (Own w u5 w.heap.size T2) := (M4.out.grow (Go.Joins.below_alloc1 _ _)).grow hb
            have R5 : Hid (IsRq u5 (w.heap.size + 1) p1 (rowG T2 256)) := (R4.out.below (Go.Joins.below_alloc1 _ _)).below hb
            have X5 : Hid (u5.heap[u4.heap.size]? = some (.cells #[.int .i64 0, .int .i64 0, .int .i64 0, .bool false, .bool false, .int .i64 0] 24 (0, 0))) := (hb.block _ (by simp)).trans (own1 u4 _)
            have A5 : Hid (u5.heap[qb]? = some (.cells #[.int .i64 ak, .int .i64 aa, .int .i64 ab, .int .i64 ap, .bool ax] 31 (0, 0))) := (hb.block _ (by simp; omega)).trans (((Go.Joins.below_alloc1 u4 _).block _ lq4).trans A4.out)
            have l5 : u4.heap.size < u5.heap.size := (Array.getElem?_eq_some_iff.1 X5.out).1
            have lq5 : qb < u5.heap.size := (Array.getElem?_eq_some_iff.1 A5.out).1
            clear hb M4 R4 A4 xa2
            have x0 : u5.cell? ⟨u4.heap.size, 0, none⟩ = some (.int .i64 0) := cells9 X5.out 0 _ rfl
            have x1 : u5.cell? ⟨u4.heap.size, 1, none⟩ = some (.int .i64 0) := cells9 X5.out 1 _ rfl
            have x2 : u5.cell? ⟨u4.heap.size, 2, none⟩ = some (.int .i64 0) := cells9 X5.out 2 _ rfl
            have x3 : u5.cell? ⟨u4.heap.size, 3, none⟩ = some (.bool false) := cells9 X5.out 3 _ rfl
            have x4 : u5.cell? ⟨u4.heap.size, 4, none⟩ = some (.bool false) := cells9 X5.out 4 _ rfl
            have x5 : u5.cell? ⟨u4.heap.size, 5, none⟩ = some (.int .i64 0) := cells9 X5.out 5 _ rfl
            go_wp2_with fail
            have CA : Hid ((∀ j x, ([.int .i64 0, .int .i64 0, .int .i64 0, .bool false, .bool false, .int .i64 0] : List Value)[j]? = some x → (u5.alloc (.cells #[.int .i64 0, .int .i64 0, .int .i64 0, .int .i64 0, .bool false, .bool false, .int .i64 0] 41)).cell? ⟨u4.heap.size, j, none⟩ = some x)) := fun j x hx => (World.cell?_alloc_lt _ _ _ l5).trans ((Go.Joins.cell_of_block X5.out j).trans (by simpa using hx))
            have MU : Hid (Own w (u5.alloc (.cells #[.int .i64 0, .int .i64 0, .int .i64 0, .int .i64 0, .bool false, .bool false, .int .i64 0] 41)).drew w.heap.size T2) := own_drew (M5.out.grow (Go.Joins.below_alloc1 _ _))
            have RU : Hid (IsRq (u5.alloc (.cells #[.int .i64 0, .int .i64 0, .int .i64 0, .int .i64 0, .bool false, .bool false, .int .i64 0] 41)).drew (w.heap.size + 1) p1 (rowG T2 256)) := isrq_drew (R5.out.below (Go.Joins.below_alloc1 _ _))
            refine wp_region_noPanic ?_
            refine wp_region_held_drew (S := fun c => (∀ j x, ([.int .i64 0, .int .i64 0, .int .i64 0, .bool false, .bool false, .int .i64 0] : List Value)[j]? = some x → c.cell? ⟨u4.heap.size, j, none⟩ = some x)) (by kernel_rfl) ?_ (fun hHeld => ?_)
            · exact CA.out
            clear CA M5 R5 X5 A5 l5 lq5 x0 x1 x2 x3 x4 x5
            generalize (u5.alloc (.cells #[.int .i64 0, .int .i64 0, .int .i64 0, .int .i64 0, .bool false, .bool false, .int .i64 0] 41)).drew = U at MU RU hHeld ⊢
            refine wpAnyH_take (i := 0) (oi := ⟨some 121, _, _, _, _, none⟩) (v := ?_) rfl (by kernel_rfl) (by kernel_rfl) (by kernel_rfl) (fun _ _ _ h => h) (Or.inl ⟨by rfl, ?_⟩) (by assumption) ?_
            rotate_left
            · intro w hSw; (try dsimp only at hSw); go_simp; (try with_reducible rfl)
            try simp only [Act.put, List.setIfInBounds_toArray, List.set_cons_zero, List.set_cons_succ]
            refine wpAnyH_take (i := 1) (oi := ⟨some 122, _, _, _, _, none⟩) (v := ?_) rfl (by kernel_rfl) (by kernel_rfl) (by kernel_rfl) (fun _ _ _ h => h) (Or.inl ⟨by rfl, ?_⟩) (by assumption) ?_
            rotate_left
            · intro w hSw; (try dsimp only at hSw); go_simp; (try with_reducible rfl)
            try simp only [Act.put, List.setIfInBounds_toArray, List.set_cons_zero, List.set_cons_succ]
            refine wpAnyH_take (i := 2) (oi := ⟨some 123, _, _, _, _, none⟩) (v := ?_) rfl (by kernel_rfl) (by kernel_rfl) (by kernel_rfl) (fun _ _ _ h => h) (Or.inl ⟨by rfl, ?_⟩) (by assumption) ?_
            rotate_left
            · intro w hSw; (try dsimp only at hSw); go_simp; (try with_reducible rfl)
            try simp only [Act.put, List.setIfInBounds_toArray, List.set_cons_zero, List.set_cons_succ]
            refine wpAnyH_take (i := 3) (oi := ⟨some 124, _, _, _, _, none⟩) (v := ?_) rfl (by kernel_rfl) (by kernel_rfl) (by kernel_rfl) (fun _ _ _ h => h) (Or.inl ⟨by rfl, ?_⟩) (by assumption) ?_
            rotate_left
            · intro w hSw; (try dsimp only at hSw); go_simp; (try with_reducible rfl)
            try simp only [Act.put, List.setIfInBounds_toArray, List.set_cons_zero, List.set_cons_succ]
            refine wpAnyH_take (i := 4) (oi := ⟨some 125, _, _, _, _, some (3, false)⟩) (v := ?_) rfl (by kernel_rfl) (by kernel_rfl) (by kernel_rfl) (fun _ _ _ h => h) (Or.inl ⟨by rfl, ?_⟩) (by assumption) ?_
            rotate_left
            · intro w hSw; (try dsimp only at hSw); go_simp; (try with_reducible rfl)
            try simp only [Act.put, List.setIfInBounds_toArray, List.set_cons_zero, List.set_cons_succ]
            refine wpAnyH_take (i := 5) (oi := ⟨some 126, _, _, _, _, some (3, false)⟩) (v := ?_) rfl (by kernel_rfl) (by kernel_rfl) (by kernel_rfl) (fun _ _ _ h => h) (Or.inl ⟨by rfl, ?_⟩) (by assumption) ?_
            rotate_left
            · intro w hSw; (try dsimp only at hSw); go_simp; (try with_reducible rfl)
            try simp only [Act.put, List.setIfInBounds_toArray, List.set_cons_zero, List.set_cons_succ]
            refine wpAnyH_take (i := 6) (oi := ⟨some 127, _, _, _, _, some (5, true)⟩) (v := undef) rfl (by kernel_rfl) (by kernel_rfl) (by kernel_rfl) (fun _ _ _ h => h) (Or.inr ⟨by rfl, rfl⟩) (by assumption) ?_
            try simp only [Act.put, List.setIfInBounds_toArray, List.set_cons_zero, List.set_cons_succ]
            refine wpAnyH_take (i := 7) (oi := ⟨some 128, _, _, _, _, some (5, true)⟩) (v := undef) rfl (by kernel_rfl) (by kernel_rfl) (by kernel_rfl) (fun _ _ _ h => h) (Or.inr ⟨by rfl, rfl⟩) (by assumption) ?_
            try simp only [Act.put, List.setIfInBounds_toArray, List.set_cons_zero, List.set_cons_succ]
            refine wpAnyH_take (i := 8) (oi := ⟨some 129, _, _, _, _, some (5, true)⟩) (v := undef) rfl (by kernel_rfl) (by kernel_rfl) (by kernel_rfl) (fun _ _ _ h => h) (Or.inr ⟨by rfl, rfl⟩) (by assumption) ?_
            try simp only [Act.put, List.setIfInBounds_toArray, List.set_cons_zero, List.set_cons_succ]
            refine wpAnyH_take (i := 9) (oi := ⟨some 130, _, _, _, _, some (5, true)⟩) (v := undef) rfl (by kernel_rfl) (by kernel_rfl) (by kernel_rfl) (fun _ _ _ h => h) (Or.inr ⟨by rfl, rfl⟩) (by assumption) ?_
            try simp only [Act.put, List.setIfInBounds_toArray, List.set_cons_zero, List.set_cons_succ]
            refine wpAnyH_take (i := 10) (oi := ⟨some 131, _, _, _, _, some (5, true)⟩) (v := undef) rfl (by kernel_rfl) (by kernel_rfl) (by kernel_rfl) (fun _ _ _ h => h) (Or.inr ⟨by rfl, rfl⟩) (by assumption) ?_
            try simp only [Act.put, List.setIfInBounds_toArray, List.set_cons_zero, List.set_cons_succ]
            refine wpAnyH_take (i := 11) (oi := ⟨some 132, _, _, _, _, some (5, true)⟩) (v := undef) rfl (by kernel_rfl) (by kernel_rfl) (by kernel_rfl) (fun _ _ _ h => h) (Or.inr ⟨by rfl, rfl⟩) (by assumption) ?_
            try simp only [Act.put, List.setIfInBounds_toArray, List.set_cons_zero, List.set_cons_succ]
            refine wpAnyH_take (i := 12) (oi := ⟨some 133, _, _, _, _, some (3, false)⟩) (v := ?_) rfl (by kernel_rfl) (by kernel_rfl) (by kernel_rfl) (fun _ _ _ h => h) (Or.inl ⟨by rfl, ?_⟩) (by assumption) ?_
            rotate_left
            · intro w hSw; (try dsimp only at hSw); go_simp; (try with_reducible rfl)
            try simp only [Act.put, List.setIfInBounds_toArray, List.set_cons_zero, List.set_cons_succ]
            refine wpAnyH_take (i := 13) (oi := ⟨some 134, _, _, _, _, none⟩) (v := ?_) rfl (by kernel_rfl) (by kernel_rfl) (by kernel_rfl) (fun _ _ _ h => h) (Or.inl ⟨by rfl, ?_⟩) (by assumption) ?_
            rotate_left
            · intro w hSw; (try dsimp only at hSw); go_simp; (try with_reducible rfl)
            try simp only [Act.put, List.setIfInBounds_toArray, List.set_cons_zero, List.set_cons_succ]
            refine wpAnyH_take (i := 14) (oi := ⟨some 135, _, _, _, _, none⟩) (v := ?_) rfl (by kernel_rfl) (by kernel_rfl) (by kernel_rfl) (fun _ _ _ h => h) (Or.inl ⟨by rfl, ?_⟩) (by assumption) ?_
            rotate_left
            · intro w hSw; (try dsimp only at hSw); go_simp; (try with_reducible rfl)
            try simp only [Act.put, List.setIfInBounds_toArray, List.set_cons_zero, List.set_cons_succ]
            refine wpAnyH_take (i := 15) (oi := ⟨some 136, _, _, _, _, some (14, false)⟩) (v := ?_) rfl (by kernel_rfl) (by kernel_rfl) (by kernel_rfl) (fun _ _ _ h => h) (Or.inl ⟨by rfl, ?_⟩) (by assumption) ?_
            rotate_left
            · intro w hSw; (try dsimp only at hSw); go_simp; (try with_reducible rfl)
            try simp only [Act.put, List.setIfInBounds_toArray, List.set_cons_zero, List.set_cons_succ]
            refine wpAnyH_take (i := 16) (oi := ⟨some 137, _, _, _, _, some (14, false)⟩) (v := ?_) rfl (by kernel_rfl) (by kernel_rfl) (by kernel_rfl) (fun _ _ _ h => h) (Or.inl ⟨by rfl, ?_⟩) (by assumption) ?_
            rotate_left
            · intro w hSw; (try dsimp only at hSw); go_simp; (try with_reducible rfl)
            try simp only [Act.put, List.setIfInBounds_toArray, List.set_cons_zero, List.set_cons_succ]
            refine wpAnyH_take (i := 17) (oi := ⟨some 138, _, _, _, _, some (14, false)⟩) (v := ?_) rfl (by kernel_rfl) (by kernel_rfl) (by kernel_rfl) (fun _ _ _ h => h) (Or.inl ⟨by rfl, ?_⟩) (by assumption) ?_
            rotate_left
            · intro w hSw; (try dsimp only at hSw); go_simp; (try with_reducible rfl)
            try simp only [Act.put, List.setIfInBounds_toArray, List.set_cons_zero, List.set_cons_succ]
            refine wpAnyH_take (i := 18) (oi := ⟨some 139, _, _, _, _, some (17, true)⟩) (v := .agg #[.int .i64 0, .int .i64 0, .int .i64 0, .bool false, .bool false, .int .i64 0]) rfl (by kernel_rfl) (by kernel_rfl) (by kernel_rfl) (fun _ _ _ h => h) (Or.inl ⟨by rfl, ?_⟩) (by assumption) ?_
            · intro w hSw; (try dsimp only at hSw); have q0 : w.cell? ⟨u4.heap.size, 0, none⟩ = some (.int .i64 0) := hSw 0 _ rfl; have q1 : w.cell? ⟨u4.heap.size, 1, none⟩ = some (.int .i64 0) := hSw 1 _ rfl; have q2 : w.cell? ⟨u4.heap.size, 2, none⟩ = some (.int .i64 0) := hSw 2 _ rfl; have q3 : w.cell? ⟨u4.heap.size, 3, none⟩ = some (.bool false) := hSw 3 _ rfl; have q4 : w.cell? ⟨u4.heap.size, 4, none⟩ = some (.bool false) := hSw 4 _ rfl; have q5 : w.cell? ⟨u4.heap.size, 5, none⟩ = some (.int .i64 0) := hSw 5 _ rfl; go_simp; (try simp)
            try simp only [Act.put, List.setIfInBounds_toArray, List.set_cons_zero, List.set_cons_succ]
            refine wpAnyH_take (i := 19) (oi := ⟨some 140, _, _, _, _, some (17, true)⟩) (v := .agg #[.int .i64 0, .int .i64 0, .int .i64 0, .bool false, .bool false, .int .i64 0]) rfl (by kernel_rfl) (by kernel_rfl) (by kernel_rfl) (fun _ _ _ h => h) (Or.inl ⟨by rfl, ?_⟩) (by assumption) ?_
            · intro w hSw; (try dsimp only at hSw); go_simp; (try simp); (try (simp only [IntKind.wrap_i64]; omega))
            try simp only [Act.put, List.setIfInBounds_toArray, List.set_cons_zero, List.set_cons_succ]
            refine wpAnyH_take (i := 20) (oi := ⟨some 141, _, _, _, _, some (17, true)⟩) (v := .bool false) rfl (by kernel_rfl) (by kernel_rfl) (by kernel_rfl) (fun _ _ _ h => h) (Or.inl ⟨by rfl, ?_⟩) (by assumption) ?_
            · intro w hSw; (try dsimp only at hSw); go_simp; (try simp); (try (simp only [IntKind.wrap_i64]; omega))
            try simp only [Act.put, List.setIfInBounds_toArray, List.set_cons_zero, List.set_cons_succ]
            refine wpAnyH_take (i := 21) (oi := ⟨some 142, _, _, _, _, some (14, false)⟩) (v := ?_) rfl (by kernel_rfl) (by kernel_rfl) (by kernel_rfl) (fun _ _ _ h => h) (Or.inl ⟨by rfl, ?_⟩) (by assumption) ?_
            rotate_left
            · intro w hSw; (try dsimp only at hSw); go_simp; (try with_reducible rfl)
            try simp only [Act.put, List.setIfInBounds_toArray, List.set_cons_zero, List.set_cons_succ]
            refine wpAnyH_take (i := 22) (oi := ⟨some 143, _, _, _, _, none⟩) (v := ?_) rfl (by kernel_rfl) (by kernel_rfl) (by kernel_rfl) (fun _ _ _ h => h) (Or.inl ⟨by rfl, ?_⟩) (by assumption) ?_
            rotate_left
            · intro w hSw; (try dsimp only at hSw); go_simp; (try with_reducible rfl)
            try simp only [Act.put, List.setIfInBounds_toArray, List.set_cons_zero, List.set_cons_succ]
            clear hHeld
            refine wpAnyH_done (by kernel_rfl) ?_ _
            refine NoPanic.normal ?_
            go_wp2_with fail
            go_roundw
            case rel => exact ⟨k + 1, s1, d1, T2, p1, by omega, by omega, rfl, by go_num, HS1, ⟨MU.out, Z2.out⟩, RU⟩
            case measure => simp [intOf]; omega
          · rw [hz] at gta
            rw [findV_is hz, hz] at RFH
            generalize getG T2 aa = l at gta RFH
            obtain ⟨gf, gp, gd, gw, gt, ga⟩ := l
            simp only [tellG] at RFH
            have GTA : Hid _ := gta
            have TC2 := TC.out ⟨gf, gp, gd, gw, gt, ga⟩ aa
            have TC3 : Hid _ := TC2
            clear gta hz TC2
            have xa1 : wr.cell? ⟨qb, 1, none⟩ = some (.int .i64 aa) := cells9 hA3.out 1 _ rfl
            have lq : qb < wr.heap.size := (Array.getElem?_eq_some_iff.1 hA3.out).1
            go_wp2_with fail
            refine (GTA.out _ hM3.out.1).mono ?_
            rintro e u4 ⟨rfl, hb⟩
            have M4 : Hid (Own w u4 w.heap.size T2) := hM3.out.grow hb
            have R4 : Hid (IsRq u4 (w.heap.size + 1) p1 (rowG T2 256)) := hR3.out.below hb
            have A4 : Hid (u4.heap[qb]? = some (.cells #[.int .i64 ak, .int .i64 aa, .int .i64 ab, .int .i64 ap, .bool ax] 31 (0, 0))) := (hb.block _ (Array.getElem?_eq_some_iff.1 hA3.out).1).trans hA3.out
            have xa2 : u4.cell? ⟨qb, 1, none⟩ = some (.int .i64 aa) := cells9 A4.out 1 _ rfl
            have lq4 : qb < u4.heap.size := (Array.getElem?_eq_some_iff.1 A4.out).1
            clear hb hM3 hR3 hA3 hD3 hW3 xa1 lq
            go_wp2_with fail
            refine (RFH.out _ (R4.out.below (Go.Joins.below_alloc1 _ _))).mono ?_
            rintro e u5 ⟨rfl, hb⟩
            have M5 : Hid (Own w u5 w.heap.size T2) := (M4.out.grow (Go.Joins.below_alloc1 _ _)).grow hb
            have R5 : Hid (IsRq u5 (w.heap.size + 1) p1 (rowG T2 256)) := (R4.out.below (Go.Joins.below_alloc1 _ _)).below hb
            have X5 : Hid (u5.heap[u4.heap.size]? = some (.cells #[.int .i64 gf, .int .i64 gp, .int .i64 gd, .bool gw, .bool gt, .int .i64 ga] 24 (0, 0))) := (hb.block _ (by simp)).trans (own1 u4 _)
            have A5 : Hid (u5.heap[qb]? = some (.cells #[.int .i64 ak, .int .i64 aa, .int .i64 ab, .int .i64 ap, .bool ax] 31 (0, 0))) := (hb.block _ (by simp; omega)).trans (((Go.Joins.below_alloc1 u4 _).block _ lq4).trans A4.out)
            have l5 : u4.heap.size < u5.heap.size := (Array.getElem?_eq_some_iff.1 X5.out).1
            have lq5 : qb < u5.heap.size := (Array.getElem?_eq_some_iff.1 A5.out).1
            clear hb M4 R4 A4 xa2
            go_wp2_with fail
            have CA : Hid ((∀ j x, ([.int .i64 gf, .int .i64 gp, .int .i64 gd, .bool gw, .bool gt, .int .i64 ga] : List Value)[j]? = some x → (u5.alloc (.cells #[.int .i64 aa, .int .i64 gf, .int .i64 gp, .int .i64 gd, .bool gw, .bool gt, .int .i64 ga] 41)).cell? ⟨u4.heap.size, j, none⟩ = some x) ∧ (∀ j x, ([.int .i64 aa, .int .i64 gf, .int .i64 gp, .int .i64 gd, .bool gw, .bool gt, .int .i64 ga] : List Value)[j]? = some x → (u5.alloc (.cells #[.int .i64 aa, .int .i64 gf, .int .i64 gp, .int .i64 gd, .bool gw, .bool gt, .int .i64 ga] 41)).cell? ⟨u5.heap.size, j, none⟩ = some x) ∧ (u5.alloc (.cells #[.int .i64 aa, .int .i64 gf, .int .i64 gp, .int .i64 gd, .bool gw, .bool gt, .int .i64 ga] 41)).cell? ⟨qb, 1, none⟩ = some (.int .i64 aa)) := ⟨fun j x hx => (World.cell?_alloc_lt _ _ _ l5).trans ((Go.Joins.cell_of_block X5.out j).trans (by simpa using hx)), fun j x hx => (Go.Joins.cell_of_block (own1 u5 _) j).trans (by simpa using hx), (World.cell?_alloc_lt _ _ _ lq5).trans (cells9 A5.out 1 _ rfl)⟩
            have MU : Hid (Own w (u5.alloc (.cells #[.int .i64 aa, .int .i64 gf, .int .i64 gp, .int .i64 gd, .bool gw, .bool gt, .int .i64 ga] 41)).drew w.heap.size T2) := own_drew (M5.out.grow (Go.Joins.below_alloc1 _ _))
            have RU : Hid (IsRq (u5.alloc (.cells #[.int .i64 aa, .int .i64 gf, .int .i64 gp, .int .i64 gd, .bool gw, .bool gt, .int .i64 ga] 41)).drew (w.heap.size + 1) p1 (rowG T2 256)) := isrq_drew (R5.out.below (Go.Joins.below_alloc1 _ _))
            have LU : Hid (u4.heap.size < (u5.alloc (.cells #[.int .i64 aa, .int .i64 gf, .int .i64 gp, .int .i64 gd, .bool gw, .bool gt, .int .i64 ga] 41)).drew.heap.size ∧ u5.heap.size < (u5.alloc (.cells #[.int .i64 aa, .int .i64 gf, .int .i64 gp, .int .i64 gd, .bool gw, .bool gt, .int .i64 ga] 41)).drew.heap.size ∧ qb < (u5.alloc (.cells #[.int .i64 aa, .int .i64 gf, .int .i64 gp, .int .i64 gd, .bool gw, .bool gt, .int .i64 ga] 41)).drew.heap.size) := ⟨by show u4.heap.size < (u5.alloc (.cells #[.int .i64 aa, .int .i64 gf, .int .i64 gp, .int .i64 gd, .bool gw, .bool gt, .int .i64 ga] 41)).heap.size; rw [World.size_alloc]; omega, by show u5.heap.size < (u5.alloc (.cells #[.int .i64 aa, .int .i64 gf, .int .i64 gp, .int .i64 gd, .bool gw, .bool gt, .int .i64 ga] 41)).heap.size; rw [World.size_alloc]; omega, by show qb < (u5.alloc (.cells #[.int .i64 aa, .int .i64 gf, .int .i64 gp, .int .i64 gd, .bool gw, .bool gt, .int .i64 ga] 41)).heap.size; rw [World.size_alloc]; omega⟩
            have CU : Hid ((∀ j x, ([.int .i64 gf, .int .i64 gp, .int .i64 gd, .bool gw, .bool gt, .int .i64 ga] : List Value)[j]? = some x → (u5.alloc (.cells #[.int .i64 aa, .int .i64 gf, .int .i64 gp, .int .i64 gd, .bool gw, .bool gt, .int .i64 ga] 41)).drew.cell? ⟨u4.heap.size, j, none⟩ = some x) ∧ (∀ j x, ([.int .i64 aa, .int .i64 gf, .int .i64 gp, .int .i64 gd, .bool gw, .bool gt, .int .i64 ga] : List Value)[j]? = some x → (u5.alloc (.cells #[.int .i64 aa, .int .i64 gf, .int .i64 gp, .int .i64 gd, .bool gw, .bool gt, .int .i64 ga] 41)).drew.cell? ⟨u5.heap.size, j, none⟩ = some x) ∧ (u5.alloc (.cells #[.int .i64 aa, .int .i64 gf, .int .i64 gp, .int .i64 gd, .bool gw, .bool gt, .int .i64 ga] 41)).drew.cell? ⟨qb, 1, none⟩ = some (.int .i64 aa)) := CA.out
            refine wp_region_noPanic ?_
            refine wp_region_held_drew (S := fun c => (∀ j x, ([.int .i64 gf, .int .i64 gp, .int .i64 gd, .bool gw, .bool gt, .int .i64 ga] : List Value)[j]? = some x → c.cell? ⟨u4.heap.size, j, none⟩ = some x) ∧ (∀ j x, ([.int .i64 aa, .int .i64 gf, .int .i64 gp, .int .i64 gd, .bool gw, .bool gt, .int .i64 ga] : List Value)[j]? = some x → c.cell? ⟨u5.heap.size, j, none⟩ = some x) ∧ c.cell? ⟨qb, 1, none⟩ = some (.int .i64 aa)) (by kernel_rfl) ?_ (fun hHeld => ?_)
            · exact CA.out
            clear CA M5 R5 X5 A5 l5 lq5
            generalize (u5.alloc (.cells #[.int .i64 aa, .int .i64 gf, .int .i64 gp, .int .i64 gd, .bool gw, .bool gt, .int .i64 ga] 41)).drew = U at MU RU LU CU hHeld ⊢
            refine wpAnyH_take (i := 0) (oi := ⟨some 121, _, _, _, _, none⟩) (v := ?_) rfl (by kernel_rfl) (by kernel_rfl) (by kernel_rfl) (fun _ _ _ h => h) (Or.inl ⟨by rfl, ?_⟩) (by assumption) ?_
            rotate_left
            · intro w hSw; (try dsimp only at hSw); go_simp; (try with_reducible rfl)
            try simp only [Act.put, List.setIfInBounds_toArray, List.set_cons_zero, List.set_cons_succ]
            refine wpAnyH_take (i := 1) (oi := ⟨some 122, _, _, _, _, none⟩) (v := ?_) rfl (by kernel_rfl) (by kernel_rfl) (by kernel_rfl) (fun _ _ _ h => h) (Or.inl ⟨by rfl, ?_⟩) (by assumption) ?_
            rotate_left
            · intro w hSw; (try dsimp only at hSw); go_simp; (try with_reducible rfl)
            try simp only [Act.put, List.setIfInBounds_toArray, List.set_cons_zero, List.set_cons_succ]
            refine wpAnyH_take (i := 2) (oi := ⟨some 123, _, _, _, _, none⟩) (v := ?_) rfl (by kernel_rfl) (by kernel_rfl) (by kernel_rfl) (fun _ _ _ h => h) (Or.inl ⟨by rfl, ?_⟩) (by assumption) ?_
            rotate_left
            · intro w hSw; (try dsimp only at hSw); go_simp; (try with_reducible rfl)
            try simp only [Act.put, List.setIfInBounds_toArray, List.set_cons_zero, List.set_cons_succ]
            refine wpAnyH_take (i := 3) (oi := ⟨some 124, _, _, _, _, none⟩) (v := ?_) rfl (by kernel_rfl) (by kernel_rfl) (by kernel_rfl) (fun _ _ _ h => h) (Or.inl ⟨by rfl, ?_⟩) (by assumption) ?_
            rotate_left
            · intro w hSw; (try dsimp only at hSw); go_simp; (try with_reducible rfl)
            try simp only [Act.put, List.setIfInBounds_toArray, List.set_cons_zero, List.set_cons_succ]
            refine wpAnyH_take (i := 4) (oi := ⟨some 125, _, _, _, _, some (3, false)⟩) (v := ?_) rfl (by kernel_rfl) (by kernel_rfl) (by kernel_rfl) (fun _ _ _ h => h) (Or.inl ⟨by rfl, ?_⟩) (by assumption) ?_
            rotate_left
            · intro w hSw; (try dsimp only at hSw); go_simp; (try with_reducible rfl)
            try simp only [Act.put, List.setIfInBounds_toArray, List.set_cons_zero, List.set_cons_succ]
            refine wpAnyH_take (i := 5) (oi := ⟨some 126, _, _, _, _, some (3, false)⟩) (v := ?_) rfl (by kernel_rfl) (by kernel_rfl) (by kernel_rfl) (fun _ _ _ h => h) (Or.inl ⟨by rfl, ?_⟩) (by assumption) ?_
            rotate_left
            · intro w hSw; (try dsimp only at hSw); go_simp; (try with_reducible rfl)
            try simp only [Act.put, List.setIfInBounds_toArray, List.set_cons_zero, List.set_cons_succ]
            refine wpAnyH_take (i := 6) (oi := ⟨some 127, _, _, _, _, some (5, true)⟩) (v := .agg #[.int .i64 gf, .int .i64 gp, .int .i64 gd, .bool gw, .bool gt, .int .i64 ga]) rfl (by kernel_rfl) (by kernel_rfl) (by kernel_rfl) (fun _ _ _ h => h) (Or.inl ⟨by rfl, ?_⟩) (by assumption) ?_
            · intro w hSw; (try dsimp only at hSw); have q0 : w.cell? ⟨u4.heap.size, 0, none⟩ = some (.int .i64 gf) := hSw.1 0 _ rfl; have q1 : w.cell? ⟨u4.heap.size, 1, none⟩ = some (.int .i64 gp) := hSw.1 1 _ rfl; have q2 : w.cell? ⟨u4.heap.size, 2, none⟩ = some (.int .i64 gd) := hSw.1 2 _ rfl; have q3 : w.cell? ⟨u4.heap.size, 3, none⟩ = some (.bool gw) := hSw.1 3 _ rfl; have q4 : w.cell? ⟨u4.heap.size, 4, none⟩ = some (.bool gt) := hSw.1 4 _ rfl; have q5 : w.cell? ⟨u4.heap.size, 5, none⟩ = some (.int .i64 ga) := hSw.1 5 _ rfl; go_simp; (try simp)
            try simp only [Act.put, List.setIfInBounds_toArray, List.set_cons_zero, List.set_cons_succ]
            refine wpAnyH_take (i := 7) (oi := ⟨some 128, _, _, _, _, some (5, true)⟩) (v := ?_) rfl (by kernel_rfl) (by kernel_rfl) (by kernel_rfl) (fun _ _ _ h => h) (Or.inl ⟨by rfl, ?_⟩) (by assumption) ?_
            rotate_left
            · intro w hSw; (try dsimp only at hSw); go_simp; (try with_reducible rfl)
            try simp only [Act.put, List.setIfInBounds_toArray, List.set_cons_zero, List.set_cons_succ]
            refine wpAnyH_take (i := 8) (oi := ⟨some 129, _, _, _, _, some (5, true)⟩) (v := (.int .i64 aa)) rfl (by kernel_rfl) (by kernel_rfl) (by kernel_rfl) (fun _ _ _ h => h) (Or.inl ⟨by rfl, ?_⟩) (by assumption) ?_
            · intro w hSw; (try dsimp only at hSw); have q0 : w.cell? ⟨qb, 1, none⟩ = some (.int .i64 aa) := hSw.2.2; go_simp; (try simp)
            try simp only [Act.put, List.setIfInBounds_toArray, List.set_cons_zero, List.set_cons_succ]
            refine wpAnyH_take (i := 10) (oi := ⟨some 131, _, _, _, _, some (5, true)⟩) (v := .agg #[.int .i64 aa, .int .i64 gf, .int .i64 gp, .int .i64 gd, .bool gw, .bool gt, .int .i64 ga]) rfl (by kernel_rfl) (by kernel_rfl) (by kernel_rfl) (fun _ _ _ h => h) (Or.inl ⟨by rfl, ?_⟩) (by assumption) ?_
            · intro w hSw; (try dsimp only at hSw); have q0 : w.cell? ⟨u5.heap.size, 0, none⟩ = some (.int .i64 aa) := hSw.2.1 0 _ rfl; have q1 : w.cell? ⟨u5.heap.size, 1, none⟩ = some (.int .i64 gf) := hSw.2.1 1 _ rfl; have q2 : w.cell? ⟨u5.heap.size, 2, none⟩ = some (.int .i64 gp) := hSw.2.1 2 _ rfl; have q3 : w.cell? ⟨u5.heap.size, 3, none⟩ = some (.int .i64 gd) := hSw.2.1 3 _ rfl; have q4 : w.cell? ⟨u5.heap.size, 4, none⟩ = some (.bool gw) := hSw.2.1 4 _ rfl; have q5 : w.cell? ⟨u5.heap.size, 5, none⟩ = some (.bool gt) := hSw.2.1 5 _ rfl; have q6 : w.cell? ⟨u5.heap.size, 6, none⟩ = some (.int .i64 ga) := hSw.2.1 6 _ rfl; go_simp; (try simp)
            try simp only [Act.put, List.setIfInBounds_toArray, List.set_cons_zero, List.set_cons_succ]
            refine wpAnyH_ready (rs := [9]) (by kernel_rfl) (by simp) ?_
            refine AllReadyH.cons (o := ⟨some 130, _, _, _, _, some (5, true)⟩) rfl (fun K hK => ?_) AllReadyH.nil
            go_simp
            go_wp2_with (go_at_call 15; refine (TC3.out _).mono ?_; rintro e v1 ⟨rfl, hb⟩)
            have MV : Hid (Own w v1 w.heap.size T2) := MU.out.grow hb
            have RV : Hid (IsRq v1 (w.heap.size + 1) p1 (rowG T2 256)) := RU.out.below hb
            have C1 : Hid ((∀ j x, ([.int .i64 gf, .int .i64 gp, .int .i64 gd, .bool gw, .bool gt, .int .i64 ga] : List Value)[j]? = some x → v1.cell? ⟨u4.heap.size, j, none⟩ = some x) ∧ (∀ j x, ([.int .i64 aa, .int .i64 gf, .int .i64 gp, .int .i64 gd, .bool gw, .bool gt, .int .i64 ga] : List Value)[j]? = some x → v1.cell? ⟨u5.heap.size, j, none⟩ = some x) ∧ v1.cell? ⟨qb, 1, none⟩ = some (.int .i64 aa)) := ⟨fun j x hx => (hb.cell (p := ⟨u4.heap.size, j, none⟩) LU.out.1).trans (CU.out.1 j x hx), fun j x hx => (hb.cell (p := ⟨u5.heap.size, j, none⟩) LU.out.2.1).trans (CU.out.2.1 j x hx), (hb.cell (p := ⟨qb, 1, none⟩) LU.out.2.2).trans CU.out.2.2⟩
            clear hb hHeld MU RU LU CU
            refine hK.out _ _ C1.out (fun hHeld => ?_)
            clear hK K
            try simp only [Act.put, List.setIfInBounds_toArray, List.set_cons_zero, List.set_cons_succ]
            refine wpAnyH_take (i := 11) (oi := ⟨some 132, _, _, _, _, some (5, true)⟩) (v := .bool false) rfl (by kernel_rfl) (by kernel_rfl) (by kernel_rfl) (fun _ _ _ h => h) (Or.inl ⟨by rfl, ?_⟩) (by assumption) ?_
            · intro w hSw; (try dsimp only at hSw); go_simp; (try simp); (try (simp only [IntKind.wrap_i64]; omega))
            try simp only [Act.put, List.setIfInBounds_toArray, List.set_cons_zero, List.set_cons_succ]
            refine wpAnyH_take (i := 12) (oi := ⟨some 133, _, _, _, _, some (3, false)⟩) (v := ?_) rfl (by kernel_rfl) (by kernel_rfl) (by kernel_rfl) (fun _ _ _ h => h) (Or.inl ⟨by rfl, ?_⟩) (by assumption) ?_
            rotate_left
            · intro w hSw; (try dsimp only at hSw); go_simp; (try with_reducible rfl)
            try simp only [Act.put, List.setIfInBounds_toArray, List.set_cons_zero, List.set_cons_succ]
            refine wpAnyH_take (i := 13) (oi := ⟨some 134, _, _, _, _, none⟩) (v := ?_) rfl (by kernel_rfl) (by kernel_rfl) (by kernel_rfl) (fun _ _ _ h => h) (Or.inl ⟨by rfl, ?_⟩) (by assumption) ?_
            rotate_left
            · intro w hSw; (try dsimp only at hSw); go_simp; (try with_reducible rfl)
            try simp only [Act.put, List.setIfInBounds_toArray, List.set_cons_zero, List.set_cons_succ]
            refine wpAnyH_take (i := 14) (oi := ⟨some 135, _, _, _, _, none⟩) (v := ?_) rfl (by kernel_rfl) (by kernel_rfl) (by kernel_rfl) (fun _ _ _ h => h) (Or.inl ⟨by rfl, ?_⟩) (by assumption) ?_
            rotate_left
            · intro w hSw; (try dsimp only at hSw); go_simp; (try with_reducible rfl)
            try simp only [Act.put, List.setIfInBounds_toArray, List.set_cons_zero, List.set_cons_succ]
            refine wpAnyH_take (i := 15) (oi := ⟨some 136, _, _, _, _, some (14, false)⟩) (v := ?_) rfl (by kernel_rfl) (by kernel_rfl) (by kernel_rfl) (fun _ _ _ h => h) (Or.inl ⟨by rfl, ?_⟩) (by assumption) ?_
            rotate_left
            · intro w hSw; (try dsimp only at hSw); go_simp; (try with_reducible rfl)
            try simp only [Act.put, List.setIfInBounds_toArray, List.set_cons_zero, List.set_cons_succ]
            refine wpAnyH_take (i := 16) (oi := ⟨some 137, _, _, _, _, some (14, false)⟩) (v := ?_) rfl (by kernel_rfl) (by kernel_rfl) (by kernel_rfl) (fun _ _ _ h => h) (Or.inl ⟨by rfl, ?_⟩) (by assumption) ?_
            rotate_left
            · intro w hSw; (try dsimp only at hSw); go_simp; (try with_reducible rfl)
            try simp only [Act.put, List.setIfInBounds_toArray, List.set_cons_zero, List.set_cons_succ]
            refine wpAnyH_take (i := 17) (oi := ⟨some 138, _, _, _, _, some (14, false)⟩) (v := ?_) rfl (by kernel_rfl) (by kernel_rfl) (by kernel_rfl) (fun _ _ _ h => h) (Or.inl ⟨by rfl, ?_⟩) (by assumption) ?_
            rotate_left
            · intro w hSw; (try dsimp only at hSw); go_simp; (try with_reducible rfl)
            try simp only [Act.put, List.setIfInBounds_toArray, List.set_cons_zero, List.set_cons_succ]
            refine wpAnyH_take (i := 18) (oi := ⟨some 139, _, _, _, _, some (17, true)⟩) (v := undef) rfl (by kernel_rfl) (by kernel_rfl) (by kernel_rfl) (fun _ _ _ h => h) (Or.inr ⟨by rfl, rfl⟩) (by assumption) ?_
            try simp only [Act.put, List.setIfInBounds_toArray, List.set_cons_zero, List.set_cons_succ]
            refine wpAnyH_take (i := 19) (oi := ⟨some 140, _, _, _, _, some (17, true)⟩) (v := undef) rfl (by kernel_rfl) (by kernel_rfl) (by kernel_rfl) (fun _ _ _ h => h) (Or.inr ⟨by rfl, rfl⟩) (by assumption) ?_
            try simp only [Act.put, List.setIfInBounds_toArray, List.set_cons_zero, List.set_cons_succ]
            refine wpAnyH_take (i := 20) (oi := ⟨some 141, _, _, _, _, some (17, true)⟩) (v := undef) rfl (by kernel_rfl) (by kernel_rfl) (by kernel_rfl) (fun _ _ _ h => h) (Or.inr ⟨by rfl, rfl⟩) (by assumption) ?_
            try simp only [Act.put, List.setIfInBounds_toArray, List.set_cons_zero, List.set_cons_succ]
            refine wpAnyH_take (i := 21) (oi := ⟨some 142, _, _, _, _, some (14, false)⟩) (v := ?_) rfl (by kernel_rfl) (by kernel_rfl) (by kernel_rfl) (fun _ _ _ h => h) (Or.inl ⟨by rfl, ?_⟩) (by assumption) ?_
            rotate_left
            · intro w hSw; (try dsimp only at hSw); go_simp; (try with_reducible rfl)
            try simp only [Act.put, List.setIfInBounds_toArray, List.set_cons_zero, List.set_cons_succ]
            refine wpAnyH_take (i := 22) (oi := ⟨some 143, _, _, _, _, none⟩) (v := ?_) rfl (by kernel_rfl) (by kernel_rfl) (by kernel_rfl) (fun _ _ _ h => h) (Or.inl ⟨by rfl, ?_⟩) (by assumption) ?_
            rotate_left
            · intro w hSw; (try dsimp only at hSw); go_simp; (try with_reducible rfl)
            try simp only [Act.put, List.setIfInBounds_toArray, List.set_cons_zero, List.set_cons_succ]
            clear hHeld C1
            refine wpAnyH_done (by kernel_rfl) ?_ _
            refine NoPanic.normal ?_
            go_wp2_with fail
            go_roundw
            case rel => exact ⟨k + 1, s1, d1, T2, p1, by omega, by omega, rfl, by go_num, HS1, ⟨MV.out, Z2.out⟩, RV⟩
            case measure => simp [intOf]; omega
    · have hQ : (k < n0 ∧ ¬ k < 80) ∨ ¬ k < n0 := by omega
      clear hlt DOC HA OFC ROC LEC RLC GTC RFC TC
      rcases hQ with ⟨hq, hq2⟩ | hq
      · have hd : decide ((k : Int) < (n0 : Int)) = true := by simp; omega
        have hd2 : decide ((k : Int) < 80) = false := by simp; omega
        go_wp2_with fail
        go_ret
        exact ⟨rfl, hM.out.1.2.1⟩
      · have hd : decide ((k : Int) < (n0 : Int)) = false := by simp; omega
        go_wp2_with fail
        go_ret
        exact ⟨rfl, hM.out.1.2.1⟩

theorem own : ownKnob Try.prog.godebug = none := by kernel_rfl
theorem laidOut : laidOutB Try.prog = true := by kernel_rfl
set_option maxRecDepth 100000 in
theorem lifted (os : Os) (started : os.Started) (H : Type) (enc : TypeId × Value → H) :
    ReturnsInHanded {} Try.checked os 3 .any (Rows.sharePlaysSpec.pre6 enc Try.prog Try.f3 Rows.sharePlaysRow.domain false) (Rows.sharePlaysSpec.post enc Try.prog Try.f3 false true false false) := by
  refine returnsInHanded_of_change (C := Try.checked) own started (by kernel_rfl) Try.func3
    (ChangeSpec.witness6 (enc := enc) (C := Try.checked) false ⟨#[], #[.slice none 0 0, .int .i64 0], []⟩ 8 (by kernel_rfl) (by kernel_rfl) (by kernel_rfl) (by kernel_rfl)) ?_
  intro W base args ds gs before hval0 hW hcnd _
  have hval : ∀ (j : Nat) t v, Try.f3.params[j]? = some t → args[j]? = some v → Value.okWide Try.prog W .any base t v := hval0
  have hW' := hW
  obtain ⟨p, q, hA0, hV, hbef, hfz, hnd⟩ := hW
  have hA : DataW.TrodAll enc Try.prog W 0 (fun _ => true) true Try.f3.params.toList args.toList ds p := hA0
  have hAk := hA
  have hlt : ∀ x ∈ p, x.block < W.heap.size := fun x hx => hW'.lt x (by rw [hbef]; exact List.mem_append_left _ hx)
  rw [Try.params3] at hA hval
  obtain ⟨v0, vs0, d0, ds0, p0, q0, hargs, rfl, hp0, h0, r0⟩ := trodAll_cons hA
  obtain ⟨v1, vs1, d1, ds1, p1, q1, rfl, rfl, hp1, h1, r1⟩ := trodAll_cons r0
  obtain ⟨rfl, rfl, hpz⟩ := trodAll_nil r1
  obtain rfl : args = #[v0, v1] := by cases args; simp_all
  obtain ⟨rfl, rfl⟩ := trodVars_none hV
  obtain ⟨p0, n0, c0, A0, rfl, m0, H0⟩ := open_acts (hval 0 22 v0 rfl rfl) h0
  obtain ⟨a1, rfl, _, _, w1⟩ := open_int Try.underlying3 (hval 1 3 v1 rfl rfl) h1
  clear hA0 hval0
  refine (walk p0 n0 c0 A0 m0 a1 w1 W H0).mono fun e W' ⟨he, hg⟩ => ?_
  subst he
  exact ⟨_, rfl, ⟨_, _, _, [], p, [], hW', (trodAll_cons_mk (shut_bool Try.underlying4 _) trodAll_mk0), args_stay laidOut hg (by kernel_rfl) hAk hlt, rfl, hg.frame _, fun h => by cases h⟩⟩

theorem over : Rows.sharePlaysRow.holds Try.pinned (OpenSpec.ofChange Rows.sharePlaysSpec) :=
  OpenClaim.holds_of_wide 3 Try.f3 rfl rfl rfl rfl rfl rfl rfl ⟨rfl, rfl, rfl, rfl, rfl⟩ rfl rfl rfl rfl rfl (by kernel_rfl) Try.func3 (by kernel_rfl)
    (of_decide_eq_true (by kernel_rfl)) (by unfold Func.isWrapper; first | (rw [if_pos (by decide +kernel)]; kernel_rfl) | (rw [if_neg (by decide +kernel)]; exact ⟨rfl, rfl⟩))
    (fun os started H enc _ => lifted os started H enc)

theorem proved : Rows.SharePlaysSaid :=
  over
#print axioms proved
end Go.Proofs.Ytenfdcjnfgjilaa.sharePlays
