/- Tables that are laid entry by entry. -/
import Derived.Test.YtaebihgegiddnaaDoorVA
import Derived.Test.YtaebihgegiddnaaDoorP7
import Derived.Deep.Slices
namespace Go.Proofs.YtaebihgegiddnaaDoor
open Go.ChangeShapes Go.WideShapes Go.ChangeAt Go.RowKit Go.Maps
set_option linter.unusedSimpArgs false
set_option linter.unusedVariables false
set_option maxRecDepth 8000

/-- an entry can be read where its table's frame is there -/
theorem chk_ent (has : Int → Bool) (T P : Int) (t0 : 0 ≤ T) (t1 : T < 1048576) (p0 : 0 ≤ P) (p1 : P < 512) : chkG has (T * 4096 + P * 8) 8 = if has T = true then 0 else 2 := by
  unfold chkG
  rw [if_pos (by omega), show (T * 4096 + P * 8) / 4096 = T by omega, show (T * 4096 + P * 8 + 8 - 1) / 4096 = T by omega]
  by_cases c : has T = true
  · rw [if_pos ⟨by omega, c, c⟩, if_pos c]
  · rw [if_neg (fun h => c h.2.1), if_neg c]
/-- one level -/
theorem rest_step (has : Int → Bool) (M : Int → Int) (addr cd : Int) (x u f : Bool) (L : Nat) (T : Int) (acc : List (Int × Int)) (t0 : 0 ≤ T) (t1 : T < 1048576) :
    (has T = false ∧ restW has M addr cd x u f (L + 1) T acc = WR.no M 0 0 2) ∨
    (has T = true ∧ bt (entV M T (pL addr (L + 1))) = false ∧ restW has M addr cd x u f (L + 1) T acc = WR.no M addr cd 9) ∨
    (has T = true ∧ bt (entV M T (pL addr (L + 1))) = true ∧ resV (entV M T (pL addr (L + 1))) ((L + 1 : Nat) : Int) = true ∧ restW has M addr cd x u f (L + 1) T acc = WR.no M addr (cd + 9) 9) ∨
    (has T = true ∧ bt (entV M T (pL addr (L + 1))) = true ∧ resV (entV M T (pL addr (L + 1))) ((L + 1 : Nat) : Int) = false ∧ (L = 0 ∨ (L = 1 ∧ bt (entV M T (pL addr (L + 1)) / 128) = true)) ∧ restW has M addr cd x u f (L + 1) T acc = endL M addr cd x u f (acc ++ [(T, pL addr (L + 1))]) (entV M T (pL addr (L + 1))) (decide (L = 1))) ∨
    (has T = true ∧ bt (entV M T (pL addr (L + 1))) = true ∧ resV (entV M T (pL addr (L + 1))) ((L + 1 : Nat) : Int) = false ∧ ¬ (L = 0 ∨ (L = 1 ∧ bt (entV M T (pL addr (L + 1)) / 128) = true)) ∧ restW has M addr cd x u f (L + 1) T acc = restW has M addr cd x u f L (entV M T (pL addr (L + 1)) / 4096 % 1048576) (acc ++ [(T, pL addr (L + 1))])) := by
  have p0 : 0 ≤ pL addr (L + 1) ∧ pL addr (L + 1) < 512 := by unfold pL; constructor <;> omega
  have ck := chk_ent has T (pL addr (L + 1)) t0 t1 p0.1 p0.2
  rw [restW]
  unfold badV
  cases c0 : has T
  · rw [c0] at ck
    rw [if_pos (by rw [ck]; decide), ck]
    exact Or.inl ⟨rfl, rfl⟩
  · rw [c0] at ck
    rw [if_neg (by rw [ck]; decide)]
    cases c1 : bt (entV M T (pL addr (L + 1)))
    · exact Or.inr (Or.inl ⟨rfl, rfl, rfl⟩)
    · cases c2 : resV (entV M T (pL addr (L + 1))) ((L + 1 : Nat) : Int)
      · by_cases c3 : L = 0 ∨ (L = 1 ∧ bt (entV M T (pL addr (L + 1)) / 128) = true)
        · exact Or.inr (Or.inr (Or.inr (Or.inl ⟨rfl, rfl, rfl, c3, by simp only [Bool.true_eq_false, Bool.false_eq_true, if_false]; rw [if_pos c3]⟩)))
        · exact Or.inr (Or.inr (Or.inr (Or.inr ⟨rfl, rfl, rfl, c3, by simp only [Bool.true_eq_false, Bool.false_eq_true, if_false]; rw [if_neg c3]⟩)))
      · exact Or.inr (Or.inr (Or.inl ⟨rfl, rfl, rfl, rfl⟩))
end Go.Proofs.YtaebihgegiddnaaDoor
namespace Go.Proofs.YtaebihgegiddnaaDoor
open Go.ChangeShapes Go.WideShapes Go.ChangeAt Go.RowKit Go.Maps
set_option linter.unusedSimpArgs false
set_option linter.unusedVariables false
set_option maxRecDepth 8000

abbrev H4 : Int → Bool := hasF 4
theorem h4_bd (k : Int) (h : H4 k = true) : 0 ≤ k ∧ k < 1048576 := by
  unfold H4 hasF at h; simp at h; omega
theorem h4_yes (k : Int) (h0 : 0 ≤ k) (h1 : k < 4) : H4 k = true := by unfold H4 hasF; simp; omega
/-- the bytes behind m entries -/
def ME (A E : Nat → Int) : Nat → Int → Int
  | 0 => fun _ => 0
  | m + 1 => mset (ME A E m) ((m : Int) * 4096 + 8 * A m) 8 (E m)
theorem ld_nought (a : Int) : ∀ n, ld (fun _ => 0) a n = 0
  | 0 => rfl
  | n + 1 => by simp [ld, ld_nought a n]
theorem ent_ME (A E : Nat → Int) (hA : ∀ k, k < 4 → 0 ≤ A k ∧ A k < 512) (hE : ∀ k, k < 4 → 0 ≤ E k ∧ E k < 18446744073709551616) : ∀ m, m ≤ 4 → ∀ (t : Nat) (P : Int), t < 4 → 0 ≤ P → P < 512 → entV (ME A E m) (t : Int) P = if t < m ∧ P = A t then E t else 0
  | 0, _, t, P, _, _, _ => by
    rw [if_neg (by omega)]; unfold entV ME; exact ld_nought _ _
  | m + 1, hm, t, P, ht, p0, p1 => by
    have a := hA m (by omega)
    have e := hE m (by omega)
    have ih := ent_ME A E hA hE m (by omega) t P ht p0 p1
    rw [ME, show (m : Int) * 4096 + 8 * A m = 8 * ((m : Int) * 512 + A m) by omega, ent_set _ _ _ _ _ e.1 e.2]
    by_cases c : t = m
    · subst c
      by_cases q : P = A t
      · rw [if_pos (by omega), if_pos ⟨by omega, q⟩]
      · rw [if_neg (by omega), ih, if_neg (by omega), if_neg (fun h => q h.2)]
    · rw [if_neg (by omega), ih]
      by_cases q : t < m ∧ P = A t
      · rw [if_pos q, if_pos ⟨by omega, q.2⟩]
      · rw [if_neg q, if_neg (fun h => q ⟨by omega, h.2⟩)]
theorem ME_byte (A E : Nat → Int) : ∀ m t, 0 ≤ ME A E m t ∧ ME A E m t < 256
  | 0, t => by unfold ME; omega
  | m + 1, t => mset_byte (ME_byte A E m) _ _ _ t
/-- what an entry says -/
structure EntOk (X L N : Int) (w u n : Bool) : Prop where
  p : bt X = true
  r : resV X L = false
  f : X / 4096 % 1048576 = N
  l : bt (X / 128) = false
  w : bt (X / 2) = w
  u : bt (X / 4) = u
  n : bt (X / 9223372036854775808) = n
theorem ent_pack (q u n : Bool) (f L : Int) (f0 : 0 ≤ f) (f1 : f < 1048576) : EntOk (packV true q u false false false false n f) L f q u n := by
  have h := unp_pack true q u false false false false n f f0 f1
  unfold unp at h
  simp only [Value.agg.injEq, Array.mk.injEq, List.cons.injEq, Value.bool.injEq, Value.int.injEq, and_true, true_and] at h
  obtain ⟨h0, h1, h2, h3, h4, h5, h6, h7, h8⟩ := h
  refine ⟨h0, ?_, h8, h5, h1, h2, h7⟩
  unfold resV
  rw [h5]
  have z : packV true q u false false false false n f / 4294967296 % 1048576 = 0 := by
    unfold packV fl
    cases q <;> cases u <;> cases n <;> simp <;> omega
  rw [z]; simp
/-- the four parts of an address, by levels -/
theorem parts4 (addr : Int) : pL addr 4 = addr / 4096 / 512 / 512 / 512 % 512 ∧ pL addr 3 = addr / 4096 / 512 / 512 % 512 ∧ pL addr 2 = addr / 4096 / 512 % 512 ∧ pL addr 1 = addr / 4096 % 512 := ⟨pL_4 addr, pL_3 addr, pL_2 addr, pL_1 addr⟩
theorem step_next (M : Int → Int) (addr cd : Int) (x u f : Bool) (L : Nat) (T N : Int) (acc : List (Int × Int)) (X : Int) (w' u' n' : Bool) (t0 : 0 ≤ T) (t1 : T < 4) (hX : entV M T (pL addr (L + 1)) = X) (h : EntOk X ((L + 1 : Nat) : Int) N w' u' n') (hL : L ≠ 0) :
    restW H4 M addr cd x u f (L + 1) T acc = restW H4 M addr cd x u f L N (acc ++ [(T, pL addr (L + 1))]) := by
  rcases rest_step H4 M addr cd x u f L T acc t0 (by omega) with ⟨c, _⟩ | ⟨_, c, _⟩ | ⟨_, _, c, _⟩ | ⟨_, _, _, c, _⟩ | ⟨_, _, _, _, ee⟩
  · rw [h4_yes T t0 t1] at c; cases c
  · rw [hX, h.p] at c; cases c
  · rw [hX, h.r] at c; cases c
  · rcases c with c | ⟨_, c⟩
    · exact absurd c hL
    · rw [hX, h.l] at c; cases c
  · rw [ee, hX, h.f]
theorem step_last (M : Int → Int) (addr cd : Int) (x u f : Bool) (T N : Int) (acc : List (Int × Int)) (X : Int) (w' u' n' : Bool) (t0 : 0 ≤ T) (t1 : T < 4) (hX : entV M T (pL addr 1) = X) (h : EntOk X 1 N w' u' n') :
    restW H4 M addr cd x u f 1 T acc = endL M addr cd x u f (acc ++ [(T, pL addr 1)]) X false := by
  rcases rest_step H4 M addr cd x u f 0 T acc t0 (by omega) with ⟨c, _⟩ | ⟨_, c, _⟩ | ⟨_, _, c, _⟩ | ⟨_, _, _, _, ee⟩ | ⟨_, _, _, c, _⟩
  · rw [h4_yes T t0 t1] at c; cases c
  · rw [hX, h.p] at c; cases c
  · rw [hX] at c; rw [show (((0 + 1 : Nat)) : Int) = 1 from rfl, h.r] at c; cases c
  · rw [ee, hX]; rfl
  · exact absurd (Or.inl rfl) c
theorem step_none (M : Int → Int) (addr cd : Int) (x u f : Bool) (L : Nat) (T : Int) (acc : List (Int × Int)) (t0 : 0 ≤ T) (t1 : T < 4) (hX : entV M T (pL addr (L + 1)) = 0) :
    restW H4 M addr cd x u f (L + 1) T acc = WR.no M addr cd 9 := by
  rcases rest_step H4 M addr cd x u f L T acc t0 (by omega) with ⟨c, _⟩ | ⟨_, _, ee⟩ | ⟨_, c, _⟩ | ⟨_, c, _⟩ | ⟨_, c, _⟩
  · rw [h4_yes T t0 t1] at c; cases c
  · exact ee
  · rw [hX] at c; cases c
  · rw [hX] at c; cases c
  · rw [hX] at c; cases c
/-- a page's own walk -/
theorem tab_own (A E : Nat → Int) (hA : ∀ k, k < 4 → 0 ≤ A k ∧ A k < 512) (hE : ∀ k, k < 4 → 0 ≤ E k ∧ E k < 18446744073709551616) (fr addr : Int) (rw' ru rn : Nat → Bool) (x u f : Bool)
    (k0 : EntOk (E 0) 4 1 (rw' 0) (ru 0) (rn 0)) (k1 : EntOk (E 1) 3 2 (rw' 1) (ru 1) (rn 1)) (k2 : EntOk (E 2) 2 3 (rw' 2) (ru 2) (rn 2)) (k3 : EntOk (E 3) 1 fr (rw' 3) (ru 3) (rn 3))
    (c : ext addr = addr) (p0 : pL addr 4 = A 0) (p1 : pL addr 3 = A 1) (p2 : pL addr 2 = A 2) (p3 : pL addr 1 = A 3) :
    walkW H4 (ME A E 4) 0 addr x u f = endL (ME A E 4) addr (codeV x u f) x u f [(0, A 0), (1, A 1), (2, A 2), (3, A 3)] (E 3) false := by
  have en : ∀ t : Nat, t < 4 → entV (ME A E 4) (t : Int) (A t) = E t := fun t ht => by
    rw [ent_ME A E hA hE 4 (by omega) t (A t) ht (hA t ht).1 (hA t ht).2, if_pos ⟨ht, rfl⟩]
  rw [rest_is H4 _ 0 addr x u f c (h4_yes 0 (by omega) (by omega))]
  rw [step_next _ addr _ x u f 3 0 1 [] (E 0) _ _ _ (by omega) (by omega) (by rw [p0]; exact en 0 (by omega)) k0 (by omega)]
  rw [step_next _ addr _ x u f 2 1 2 _ (E 1) _ _ _ (by omega) (by omega) (by rw [p1]; exact en 1 (by omega)) k1 (by omega)]
  rw [step_next _ addr _ x u f 1 2 3 _ (E 2) _ _ _ (by omega) (by omega) (by rw [p2]; exact en 2 (by omega)) k2 (by omega)]
  rw [step_last _ addr _ x u f 3 fr _ (E 3) _ _ _ (by omega) (by omega) (by rw [p3]; exact en 3 (by omega)) k3]
  rw [p0, p1, p2, p3]; rfl
/-- another page's walk -/
theorem tab_other (A E : Nat → Int) (hA : ∀ k, k < 4 → 0 ≤ A k ∧ A k < 512) (hE : ∀ k, k < 4 → 0 ≤ E k ∧ E k < 18446744073709551616) (fr addr oth : Int) (rw' ru rn : Nat → Bool) (x u f : Bool)
    (k0 : EntOk (E 0) 4 1 (rw' 0) (ru 0) (rn 0)) (k1 : EntOk (E 1) 3 2 (rw' 1) (ru 1) (rn 1)) (k2 : EntOk (E 2) 2 3 (rw' 2) (ru 2) (rn 2))
    (c : ext addr = addr) (p0 : pL addr 4 = A 0) (p1 : pL addr 3 = A 1) (p2 : pL addr 2 = A 2) (p3 : pL addr 1 = A 3) (co : ext oth = oth) (ne : oth / 4096 ≠ addr / 4096) :
    walkW H4 (ME A E 4) 0 oth x u f = WR.no (ME A E 4) oth (codeV x u f) 9 := by
  have en : ∀ t : Nat, t < 4 → entV (ME A E 4) (t : Int) (A t) = E t := fun t ht => by
    rw [ent_ME A E hA hE 4 (by omega) t (A t) ht (hA t ht).1 (hA t ht).2, if_pos ⟨ht, rfl⟩]
  have ez : ∀ (t L : Nat), t < 4 → pL oth (L + 1) ≠ A t → entV (ME A E 4) (t : Int) (pL oth (L + 1)) = 0 := fun t L ht hn => by
    have b : 0 ≤ pL oth (L + 1) ∧ pL oth (L + 1) < 512 := by unfold pL; constructor <;> omega
    rw [ent_ME A E hA hE 4 (by omega) t _ ht b.1 b.2, if_neg (fun h => hn h.2)]
  rw [rest_is H4 _ 0 oth x u f co (h4_yes 0 (by omega) (by omega))]
  by_cases q0 : pL oth 4 = A 0
  · rw [step_next _ oth _ x u f 3 0 1 [] (E 0) _ _ _ (by omega) (by omega) (by rw [q0]; exact en 0 (by omega)) k0 (by omega)]
    by_cases q1 : pL oth 3 = A 1
    · rw [step_next _ oth _ x u f 2 1 2 _ (E 1) _ _ _ (by omega) (by omega) (by rw [q1]; exact en 1 (by omega)) k1 (by omega)]
      by_cases q2 : pL oth 2 = A 2
      · rw [step_next _ oth _ x u f 1 2 3 _ (E 2) _ _ _ (by omega) (by omega) (by rw [q2]; exact en 2 (by omega)) k2 (by omega)]
        by_cases q3 : pL oth 1 = A 3
        · exfalso
          apply ne
          rw [← p0, pL_4, pL_4] at q0
          rw [← p1, pL_3, pL_3] at q1
          rw [← p2, pL_2, pL_2] at q2
          rw [← p3, pL_1, pL_1] at q3
          have j1 := parts_join oth
          have j2 := parts_join addr
          rw [q0, q1, q2, q3] at j1
          have m1 : oth % 281474976710656 / 4096 = addr % 281474976710656 / 4096 := by omega
          clear q0 q1 q2 q3 j1 j2
          unfold ext at c co
          split at c <;> split at co <;> omega
        · exact step_none _ oth _ x u f 0 3 _ (by omega) (by omega) (ez 3 0 (by omega) q3)
      · exact step_none _ oth _ x u f 1 2 _ (by omega) (by omega) (ez 2 1 (by omega) q2)
    · exact step_none _ oth _ x u f 2 1 _ (by omega) (by omega) (ez 1 2 (by omega) q1)
  · exact step_none _ oth _ x u f 3 0 _ (by omega) (by omega) (ez 0 3 (by omega) q0)
end Go.Proofs.YtaebihgegiddnaaDoor
namespace Go.Proofs.YtaebihgegiddnaaDoor
open Go.ChangeShapes Go.WideShapes Go.ChangeAt Go.RowKit Go.Maps
set_option linter.unusedSimpArgs false
set_option linter.unusedVariables false
set_option maxRecDepth 8000

theorem entry_cells {H : Type} {enc : TypeId × Value → H} {W : World} {base : Nat} {sp : Nat → Bool} {held : Bool} {x : DataW H} {ps : List MemPlace} {fuel : Nat} {cs : List Value} (hf : DataW.trod enc Tryd.prog W base sp held fuel 54 cs = some (x, ps)) (hl : cs.length = 9) :
    ∃ (a0 : Bool) (a1 : Bool) (a2 : Bool) (a3 : Bool) (a4 : Bool) (a5 : Bool) (a6 : Bool) (a7 : Bool) (a8 : Int), cs = [.bool a0, .bool a1, .bool a2, .bool a3, .bool a4, .bool a5, .bool a6, .bool a7, .int .i64 a8] ∧ (Lit.int .i64 a8).wf = true ∧ True := by
  obtain ⟨c0, c1, c2, c3, c4, c5, c6, c7, c8, hcs⟩ : ∃ c0 c1 c2 c3 c4 c5 c6 c7 c8, cs = [c0, c1, c2, c3, c4, c5, c6, c7, c8] := by
    revert hl
    match cs with
    | [c0, c1, c2, c3, c4, c5, c6, c7, c8] => intro _; exact ⟨c0, c1, c2, c3, c4, c5, c6, c7, c8, rfl⟩
    | [] => intro q; cases q
    | [_] => intro q; cases q
    | [_, _] => intro q; cases q
    | [_, _, _] => intro q; cases q
    | [_, _, _, _] => intro q; cases q
    | [_, _, _, _, _] => intro q; cases q
    | [_, _, _, _, _, _] => intro q; cases q
    | [_, _, _, _, _, _, _] => intro q; cases q
    | [_, _, _, _, _, _, _, _] => intro q; cases q
    | _ :: _ :: _ :: _ :: _ :: _ :: _ :: _ :: _ :: _ :: _ => intro q; simp at q
  subst hcs
  obtain ⟨zs, m, _, _, jl, jlen, jf⟩ := DataW.trod_struct Tryd.underlying54 hf
  have jg : ∀ i, i < 9 → ∃ y, zs[i]? = some y := fun i hi => ⟨_, List.getElem?_eq_getElem (by rw [jlen]; exact hi)⟩
  obtain ⟨⟨z0a, z0b⟩, m0⟩ := jg 0 (by omega)
  obtain ⟨b0, e0, _⟩ := DataW.trod_bool Tryd.underlying4 ((jf 0 _ rfl).trans m0)
  obtain rfl := cell_of cellsB e0 (c := c0) (by first | rfl | (rw [cellsB]; rfl))
  obtain ⟨⟨z1a, z1b⟩, m1⟩ := jg 1 (by omega)
  obtain ⟨b1, e1, _⟩ := DataW.trod_bool Tryd.underlying4 ((jf 1 _ rfl).trans m1)
  obtain rfl := cell_of cellsB e1 (c := c1) (by first | rfl | (rw [cellsB]; rfl))
  obtain ⟨⟨z2a, z2b⟩, m2⟩ := jg 2 (by omega)
  obtain ⟨b2, e2, _⟩ := DataW.trod_bool Tryd.underlying4 ((jf 2 _ rfl).trans m2)
  obtain rfl := cell_of cellsB e2 (c := c2) (by first | rfl | (rw [cellsB]; rfl))
  obtain ⟨⟨z3a, z3b⟩, m3⟩ := jg 3 (by omega)
  obtain ⟨b3, e3, _⟩ := DataW.trod_bool Tryd.underlying4 ((jf 3 _ rfl).trans m3)
  obtain rfl := cell_of cellsB e3 (c := c3) (by first | rfl | (rw [cellsB]; rfl))
  obtain ⟨⟨z4a, z4b⟩, m4⟩ := jg 4 (by omega)
  obtain ⟨b4, e4, _⟩ := DataW.trod_bool Tryd.underlying4 ((jf 4 _ rfl).trans m4)
  obtain rfl := cell_of cellsB e4 (c := c4) (by first | rfl | (rw [cellsB]; rfl))
  obtain ⟨⟨z5a, z5b⟩, m5⟩ := jg 5 (by omega)
  obtain ⟨b5, e5, _⟩ := DataW.trod_bool Tryd.underlying4 ((jf 5 _ rfl).trans m5)
  obtain rfl := cell_of cellsB e5 (c := c5) (by first | rfl | (rw [cellsB]; rfl))
  obtain ⟨⟨z6a, z6b⟩, m6⟩ := jg 6 (by omega)
  obtain ⟨b6, e6, _⟩ := DataW.trod_bool Tryd.underlying4 ((jf 6 _ rfl).trans m6)
  obtain rfl := cell_of cellsB e6 (c := c6) (by first | rfl | (rw [cellsB]; rfl))
  obtain ⟨⟨z7a, z7b⟩, m7⟩ := jg 7 (by omega)
  obtain ⟨b7, e7, _⟩ := DataW.trod_bool Tryd.underlying4 ((jf 7 _ rfl).trans m7)
  obtain rfl := cell_of cellsB e7 (c := c7) (by first | rfl | (rw [cellsB]; rfl))
  obtain ⟨⟨z8a, z8b⟩, m8⟩ := jg 8 (by omega)
  obtain ⟨b8, e8, _, w8⟩ := DataW.trod_int Tryd.underlying3 ((jf 8 _ rfl).trans m8)
  obtain rfl := cell_of cellsI e8 (c := c8) (by first | rfl | (rw [cellsI]; rfl))
  exact ⟨_, _, _, _, _, _, _, _, _, rfl, w8, trivial⟩
theorem cells36 : Tryd.prog.cellsOf 55 = 36 := by kernel_rfl
def IsR4 (C : List Value) (rW rU rN : Nat → Bool) : Prop := C.length = 36 ∧ ∀ k, k < 4 → C[k * 9 + 1]? = some (.bool (rW k)) ∧ C[k * 9 + 2]? = some (.bool (rU k)) ∧ C[k * 9 + 7]? = some (.bool (rN k))
theorem open_ent4 {H : Type} {enc : TypeId × Value → H} {W : World} {r : Reach} {b0 base : Nat} {sp : Nat → Bool} {held : Bool} {v : Value} {x : DataW H} {ps : List MemPlace}
    (hv : Value.okWide Tryd.prog W r b0 55 v) (h : DataW.Trod enc Tryd.prog W base sp held 55 v x ps) :
    ∃ (C : List Value) (rW rU rN : Nat → Bool), v = .agg C.toArray ∧ IsR4 C rW rU rN := by
  have hs := Tryd.underlying55
  have hv' := hv
  simp only [Value.okWide, hs] at hv'
  obtain ⟨cs, rfl, hsz, _⟩ := hv'
  obtain ⟨fuel, hf0⟩ := h
  have hf1 : DataW.trod enc Tryd.prog W base sp held fuel 55 cs.toList = some (x, ps) := hf0
  obtain ⟨xs, n, _, _, hl, hlen, hf⟩ := DataW.trod_array hs hf1
  have len : cs.toList.length = 36 := by rw [Array.length_toList]; exact hsz.trans cells36
  have each : ∀ k, k < 4 → ∃ q : B3, cs.toList[k * 9 + 1]? = some (.bool q.x) ∧ cs.toList[k * 9 + 2]? = some (.bool q.y) ∧ cs.toList[k * 9 + 7]? = some (.bool q.z) := fun k hk => by
    obtain ⟨⟨ya, yb⟩, ky⟩ : ∃ y, xs[k]? = some y := ⟨_, List.getElem?_eq_getElem (by rw [hlen]; exact hk)⟩
    have g := (hf k hk).trans ky
    rw [cellsE] at g
    obtain ⟨a0, a1, a2, a3, a4, a5, a6, a7, a8, e, _⟩ := entry_cells g (by rw [List.length_take, List.length_drop, len]; omega)
    have at' : ∀ j, j < 9 → cs.toList[k * 9 + j]? = ([.bool a0, .bool a1, .bool a2, .bool a3, .bool a4, .bool a5, .bool a6, .bool a7, .int .i64 a8] : List Value)[j]? := fun j hj => by
      rw [← e, List.getElem?_take_of_lt hj, List.getElem?_drop]
    exact ⟨⟨a1, a2, a7⟩, at' 1 (by omega), at' 2 (by omega), at' 7 (by omega)⟩
  haveI : Inhabited B3 := ⟨⟨false, false, false⟩⟩
  obtain ⟨q, hq⟩ := Go.Deep.choose_lt each
  exact ⟨cs.toList, fun k => (q k).x, fun k => (q k).y, fun k => (q k).z, by simp, len, hq⟩
/-- rights of all entries so far -/
def allB (r : Nat → Bool) : Nat → Bool
  | 0 => true
  | k + 1 => allB r k && r k
/-- the entry of level k -/
def entN (fr : Int) (k : Nat) : Int := if k = 3 then fr else (k : Int) + 1
def entE (rW rU rN : Nat → Bool) (fr : Int) (k : Nat) : Int := packV true (rW k) (rU k) false false false false (rN k) (entN fr k)
theorem entN_bd {fr : Int} (f0 : 0 ≤ fr) (f1 : fr < 1048576) (k : Nat) (hk : k < 4) : 0 ≤ entN fr k ∧ entN fr k < 1048576 := by unfold entN; split <;> omega
structure DL (w W : World) (rb pB : Nat) (A : Nat → Int) (C : List Value) (x u f : Bool) (rW rU rN : Nat → Bool) (fr : Int) (k : Nat) : Prop where
  ram : ∃ (K : Nat → Prop) (S : List Nat) (n : Nat), Ram5 W K S rb H4 4 (ME A (entE rW rU rN fr) k) n ∧ n ≤ 2 * k ∧ pB ∉ S ∧ (∀ j, j ≤ w.heap.size + 1 + 1 → K j) ∧ K pB
  bel : Below w.heap.size w W
  a4 : Blk W w.heap.size [.int .i64 (A 0), .int .i64 (A 1), .int .i64 (A 2), .int .i64 (A 3)] 52
  r4 : Blk W (w.heap.size + 1) C 55
  ac : Blk W (w.heap.size + 1 + 1) [.bool x, .bool u, .bool f] 34
  p : Blk W pB [.bool (allB rW k), .bool (allB rU k), .bool (allB (fun i => !rN i) k)] 38
  lp : w.heap.size + 1 + 1 < pB
end Go.Proofs.YtaebihgegiddnaaDoor
namespace Go.Proofs.YtaebihgegiddnaaDoor
open Go.ChangeShapes Go.WideShapes Go.ChangeAt Go.RowKit Go.Maps
set_option linter.unusedSimpArgs false
set_option linter.unusedVariables false
set_option maxRecDepth 8000

theorem set3 {W : World} {b eb : Nat} {p0 p1 p2 : Value} {t te : TypeId} {C : List Value} (hP : Blk W b [p0, p1, p2] t) (hE : Blk W eb C te) (ne : eb ≠ b) (v0 v1 v2 : Value) :
    Blk (((W.setCell ⟨b, 0, none⟩ v0).setCell ⟨b, 1, none⟩ v1).setCell ⟨b, 2, none⟩ v2) b [v0, v1, v2] t ∧ Blk (((W.setCell ⟨b, 0, none⟩ v0).setCell ⟨b, 1, none⟩ v1).setCell ⟨b, 2, none⟩ v2) eb C te ∧ W.grownBy (((W.setCell ⟨b, 0, none⟩ v0).setCell ⟨b, 1, none⟩ v1).setCell ⟨b, 2, none⟩ v2) (some b) := by
  have hs : ∀ j, j ≠ b → (((W.setCell ⟨b, 0, none⟩ v0).setCell ⟨b, 1, none⟩ v1).setCell ⟨b, 2, none⟩ v2).heap[j]? = W.heap[j]? := fun j h => ((Below.heap_setCell _ _ _ _ h).trans (Below.heap_setCell _ _ _ _ h)).trans (Below.heap_setCell _ _ _ _ h)
  have bl := (((Below.refl b W).setCell (p := ⟨b, 0, none⟩) (Nat.le_refl b) v0).setCell (p := ⟨b, 1, none⟩) (Nat.le_refl b) v1).setCell (p := ⟨b, 2, none⟩) (Nat.le_refl b) v2
  exact ⟨((hP.set 0 v0).set 1 v1).set 2 v2, (hs eb ne).trans hE, bl.os, bl.tape, bl.output, bl.size, fun j _ hne => hs j (fun e => hne (by rw [e]))⟩
theorem at_cell (A : Nat → Int) : ∀ k, k < 4 → ([.int .i64 (A 0), .int .i64 (A 1), .int .i64 (A 2), .int .i64 (A 3)] : List Value)[k]? = some (.int .i64 (A k))
  | 0, _ => rfl
  | 1, _ => rfl
  | 2, _ => rfl
  | 3, _ => rfl
theorem entE_bd {rW rU rN : Nat → Bool} {fr : Int} (f0 : 0 ≤ fr) (f1 : fr < 1048576) (k : Nat) (hk : k < 4) : 0 ≤ entE rW rU rN fr k ∧ entE rW rU rN fr k < 18446744073709551616 := by
  have b := entN_bd f0 f1 k hk
  exact packV_bd _ _ _ _ _ _ _ _ _ b.1 b.2
/-- one level's entry is laid -/
theorem DL.store {w W v1 v2 v3 : World} {rb pB : Nat} {A : Nat → Int} {C : List Value} {x u f : Bool} {rW rU rN : Nat → Bool} {fr : Int} {k : Nat} (h : DL w W rb pB A C x u f rW rU rN fr k) (hk : k < 4) (hA : 0 ≤ A k ∧ A k < 512) (f0 : 0 ≤ fr) (f1 : fr < 1048576) (mx : 2000 < maxLen)
    (h1 : Below W.heap.size W v1) (h2 : v1.grownBy v2 (some pB)) (hp : Blk v2 pB [.bool (allB rW (k + 1)), .bool (allB rU (k + 1)), .bool (allB (fun i => !rN i) (k + 1))] 38) (h3 : Below v2.heap.size v2 v3) :
    Calls Tryd.prog 13 #[.pointer (some ⟨rb, 0, none⟩), .int .u64 ((k : Int) * 4096 + 8 * A k), .int .i64 8, .int .u64 (entE rW rU rN fr k)] v3 fun e w' => e = .returned (.int .i64 0) ∧ DL w w' rb pB A C x u f rW rU rN fr (k + 1) := by
  obtain ⟨K, S, n, r5, hn, hs, hK, hKp⟩ := h.ram
  have q1 := r5.grow (below_g0 h1)
  have q2 := q1.poke h2 hKp hs
  have q3 := q2.grow (below_g0 h3)
  have ck : chkG H4 ((k : Int) * 4096 + 8 * A k) 8 = 0 := by
    rw [show (k : Int) * 4096 + 8 * A k = (k : Int) * 4096 + A k * 8 by omega, chk_ent H4 k (A k) (by omega) (by omega) hA.1 hA.2, if_pos (h4_yes _ (by omega) (by omega))]
  have eb := entE_bd (rW := rW) (rU := rU) (rN := rN) f0 f1 k hk
  refine (store_K q3.ram (by omega) _ 8 _ (by omega) (by omega) ck eb.1 eb.2).mono ?_
  rintro e w' ⟨he, hr, hk2⟩
  have lp := h.lp
  have l1 := h1.size
  have nb : ∀ {b : Nat} {D : List Value} {t : TypeId}, b ≤ w.heap.size + 1 + 1 → Blk W b D t → Blk w' b D t := fun {b D t} hb hB => by
    have e1 := hB.below h1
    have e2 : Blk v2 b D t := (h2.block b (blk_lt e1) (fun e => by have := Option.some.inj e; omega)).trans e1
    exact (e2.below h3).kept hk2 (hK b hb)
  have hp2 : Blk w' pB [.bool (allB rW (k + 1)), .bool (allB rU (k + 1)), .bool (allB (fun i => !rN i) (k + 1))] 38 := (hp.below h3).kept hk2 hKp
  refine ⟨he, ⟨⟨K, S, _, q3.next hr hk2, by omega, hs, hK, hKp⟩, ?_, nb (by omega) h.a4, nb (by omega) h.r4, nb (by omega) h.ac, hp2, lp⟩⟩
  have b1 := below_then h.bel h1
  have b2 : Below w.heap.size w v2 := b1.grown h2 b1.size (fun j ej => by have := Option.some.inj ej; omega)
  exact (below_then b2 h3).trans (hk2.below (fun j hj => hK j (by omega)))
end Go.Proofs.YtaebihgegiddnaaDoor
namespace Go.Proofs.YtaebihgegiddnaaDoor
open Go.ChangeShapes Go.WideShapes Go.ChangeAt Go.RowKit Go.Maps
set_option linter.unusedSimpArgs false
set_option linter.unusedVariables false
set_option maxRecDepth 8000

theorem nePerm (a b c a' b' c' : Bool) (W : World) : (binOp .neq 38 (.agg #[.bool a, .bool b, .bool c]) (.agg #[.bool a', .bool b', .bool c'])).run Tryd.prog W = .ok (.bool (!(a == a' && (b == b' && c == c')))) W := by
  have := eqPm 9998 a b c a' b' c' W
  simp only [binOp, Op.equal, Sem.run_bind]
  rw [show Op.maxDepth = 9998 + 2 from rfl, this]; rfl
theorem rest_fault4 (M : Int → Int) (addr cd : Int) (x u f : Bool) : ∀ (L : Nat) (T : Int) (acc : List (Int × Int)), 0 ≤ T → T < 1048576 →
    ((restW H4 M addr cd x u f L T acc).er = 9 → (restW H4 M addr cd x u f L T acc).fa = addr) := by
  intro L
  induction L with
  | zero => intro T acc _ _ h; exact absurd h (by show (0 : Int) ≠ 9; omega)
  | succ L ih =>
    intro T acc t0 t1
    rcases rest_step H4 M addr cd x u f L T acc t0 t1 with ⟨_, ee⟩ | ⟨_, _, ee⟩ | ⟨_, _, _, ee⟩ | ⟨_, _, _, _, ee⟩ | ⟨_, _, _, _, ee⟩
    · rw [ee]; exact fun h => absurd h (by show (2 : Int) ≠ 9; omega)
    · rw [ee]; exact fun _ => rfl
    · rw [ee]; exact fun _ => rfl
    · rw [ee]; unfold endL
      split
      · exact fun h => absurd h (by show (0 : Int) ≠ 9; omega)
      · exact fun _ => rfl
    · rw [ee]; exact ih _ _ (by omega) (by omega)
theorem walk_fault4 (M : Int → Int) (root addr : Int) (x u f : Bool) : (walkW H4 M root addr x u f).er = 9 → (walkW H4 M root addr x u f).fa = addr := by
  by_cases c1 : ext addr = addr
  · cases c2 : H4 root
    · have e : walkW H4 M root addr x u f = WR.no M 0 0 2 := by unfold walkW; rw [if_neg (by simp [c1]), if_pos c2]
      rw [e]; exact fun h => absurd h (by show (2 : Int) ≠ 9; omega)
    · rw [rest_is H4 M root addr x u f c1 c2]
      have b := h4_bd root c2
      exact rest_fault4 _ _ _ _ _ _ 4 root [] b.1 b.2
  · have e : walkW H4 M root addr x u f = WR.no M 0 0 1 := by unfold walkW; rw [if_pos (by simp [c1])]
    rw [e]; exact fun h => absurd h (by show (1 : Int) ≠ 9; omega)
/-- the entries of the four levels -/
theorem ent4_ok (rW rU rN : Nat → Bool) (fr : Int) (f0 : 0 ≤ fr) (f1 : fr < 1048576) (k : Nat) (hk : k < 4) (L : Int) : EntOk (entE rW rU rN fr k) L (entN fr k) (rW k) (rU k) (rN k) := by
  have b := entN_bd f0 f1 k hk
  exact ent_pack _ _ _ _ _ b.1 b.2
theorem tab_first (A : Nat → Int) (rW rU rN : Nat → Bool) (fr addr : Int) (x u f : Bool) (hA : ∀ k, k < 4 → 0 ≤ A k ∧ A k < 512) (f0 : 0 ≤ fr) (f1 : fr < 1048576)
    (c : ext addr = addr) (p0 : pL addr 4 = A 0) (p1 : pL addr 3 = A 1) (p2 : pL addr 2 = A 2) (p3 : pL addr 1 = A 3) :
    (mayV (allB rW 4) (allB rU 4) (allB (fun i => !rN i) 4) x u f = true → (walkW H4 (ME A (entE rW rU rN fr) 4) 0 addr x u f).er = 0 ∧ (walkW H4 (ME A (entE rW rU rN fr) 4) 0 addr x u f).fr = fr ∧ (walkW H4 (ME A (entE rW rU rN fr) 4) 0 addr x u f).pw = allB rW 4 ∧ (walkW H4 (ME A (entE rW rU rN fr) 4) 0 addr x u f).pu = allB rU 4 ∧ (walkW H4 (ME A (entE rW rU rN fr) 4) 0 addr x u f).px = allB (fun i => !rN i) 4 ∧ (walkW H4 (ME A (entE rW rU rN fr) 4) 0 addr x u f).l = false) ∧
    (mayV (allB rW 4) (allB rU 4) (allB (fun i => !rN i) 4) x u f = false → (walkW H4 (ME A (entE rW rU rN fr) 4) 0 addr x u f).er = 9 ∧ (walkW H4 (ME A (entE rW rU rN fr) 4) 0 addr x u f).fa = addr ∧ (walkW H4 (ME A (entE rW rU rN fr) 4) 0 addr x u f).fc = codeV x u f + 1) := by
  have hE : ∀ k, k < 4 → 0 ≤ entE rW rU rN fr k ∧ entE rW rU rN fr k < 18446744073709551616 := fun k hk => entE_bd f0 f1 k hk
  have ok := fun k hk L => ent4_ok rW rU rN fr f0 f1 k hk L
  have k0 : EntOk (entE rW rU rN fr 0) 4 1 (rW 0) (rU 0) (rN 0) := ok 0 (by omega) 4
  have k1 : EntOk (entE rW rU rN fr 1) 3 2 (rW 1) (rU 1) (rN 1) := ok 1 (by omega) 3
  have k2 : EntOk (entE rW rU rN fr 2) 2 3 (rW 2) (rU 2) (rN 2) := ok 2 (by omega) 2
  have k3 : EntOk (entE rW rU rN fr 3) 1 fr (rW 3) (rU 3) (rN 3) := ok 3 (by omega) 1
  have en : ∀ t : Nat, t < 4 → entV (ME A (entE rW rU rN fr) 4) (t : Int) (A t) = entE rW rU rN fr t := fun t ht => by
    rw [ent_ME A _ hA hE 4 (by omega) t (A t) ht (hA t ht).1 (hA t ht).2, if_pos ⟨ht, rfl⟩]
  have e0 : entV (ME A (entE rW rU rN fr) 4) 0 (A 0) = entE rW rU rN fr 0 := en 0 (by omega)
  have e1 : entV (ME A (entE rW rU rN fr) 4) 1 (A 1) = entE rW rU rN fr 1 := en 1 (by omega)
  have e2 : entV (ME A (entE rW rU rN fr) 4) 2 (A 2) = entE rW rU rN fr 2 := en 2 (by omega)
  have e3 : entV (ME A (entE rW rU rN fr) 4) 3 (A 3) = entE rW rU rN fr 3 := en 3 (by omega)
  rw [tab_own A _ hA hE fr addr rW rU rN x u f k0 k1 k2 k3 c p0 p1 p2 p3]
  have aw : allW (ME A (entE rW rU rN fr) 4) [(0, A 0), (1, A 1), (2, A 2), (3, A 3)] = allB rW 4 := by
    simp only [allW, List.foldl_cons, List.foldl_nil, e0, e1, e2, e3, k0.w, k1.w, k2.w, k3.w, allB]
  have au : allU (ME A (entE rW rU rN fr) 4) [(0, A 0), (1, A 1), (2, A 2), (3, A 3)] = allB rU 4 := by
    simp only [allU, List.foldl_cons, List.foldl_nil, e0, e1, e2, e3, k0.u, k1.u, k2.u, k3.u, allB]
  have ax : allX (ME A (entE rW rU rN fr) 4) [(0, A 0), (1, A 1), (2, A 2), (3, A 3)] = allB (fun i => !rN i) 4 := by
    simp only [allX, List.foldl_cons, List.foldl_nil, e0, e1, e2, e3, k0.n, k1.n, k2.n, k3.n, allB]
  unfold endL
  rw [aw, au, ax]
  constructor
  · intro h
    rw [if_pos h]
    exact ⟨rfl, by show entE rW rU rN fr 3 / 4096 % 1048576 + _ = fr; rw [k3.f]; simp, rfl, rfl, rfl, rfl⟩
  · intro h
    rw [if_neg (by rw [h]; simp)]
    exact ⟨rfl, rfl, rfl⟩
theorem tab_second (A : Nat → Int) (rW rU rN : Nat → Bool) (fr addr oth : Int) (x u f : Bool) (hA : ∀ k, k < 4 → 0 ≤ A k ∧ A k < 512) (f0 : 0 ≤ fr) (f1 : fr < 1048576)
    (c : ext addr = addr) (p0 : pL addr 4 = A 0) (p1 : pL addr 3 = A 1) (p2 : pL addr 2 = A 2) (p3 : pL addr 1 = A 3) (o0 : 0 ≤ oth) (o1 : oth < 18446744073709551616) (co : ext oth = oth) (ne : oth / 4096 ≠ addr / 4096) :
    (walkW H4 (walkW H4 (ME A (entE rW rU rN fr) 4) 0 addr x u f).M 0 oth x u f).er = 9 ∧ (walkW H4 (walkW H4 (ME A (entE rW rU rN fr) 4) 0 addr x u f).M 0 oth x u f).fa = oth ∧ (walkW H4 (walkW H4 (ME A (entE rW rU rN fr) 4) 0 addr x u f).M 0 oth x u f).fc = codeV x u f := by
  have hE : ∀ k, k < 4 → 0 ≤ entE rW rU rN fr k ∧ entE rW rU rN fr k < 18446744073709551616 := fun k hk => entE_bd f0 f1 k hk
  have ok := fun k hk L => ent4_ok rW rU rN fr f0 f1 k hk L
  have t := tab_other A (entE rW rU rN fr) hA hE fr addr oth rW rU rN x u f (ok 0 (by omega) 4) (ok 1 (by omega) 3) (ok 2 (by omega) 2) c p0 p1 p2 p3 co ne
  have lk := walk_lkm (ME_byte A (entE rW rU rN fr) 4) H4 0 addr x u f
  have sm := sim_walk lk H4 0 (a := oth) (b := oth) rfl o0 o1 o0 o1 x u f
  rw [t] at sm
  have er : (walkW H4 (walkW H4 (ME A (entE rW rU rN fr) 4) 0 addr x u f).M 0 oth x u f).er = 9 := sm.er
  exact ⟨er, walk_fault4 _ _ _ _ _ _ er, sm.fc⟩
theorem code_and1 (x u f : Bool) : bits .and .i64 (codeV x u f + 1) 1 = 1 := by cases x <;> cases u <;> cases f <;> decide
theorem code_and0 (x u f : Bool) : bits .and .i64 (codeV x u f) 1 = 0 := by cases x <;> cases u <;> cases f <;> decide
end Go.Proofs.YtaebihgegiddnaaDoor
