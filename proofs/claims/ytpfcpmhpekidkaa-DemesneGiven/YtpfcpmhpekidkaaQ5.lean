/- Containers: End, Child, New. -/
import Derived.Test.YtpfcpmhpekidkaaQ4
namespace Go.Proofs.Ytpfcpmhpekidkaa.Qu
open Go.ChangeShapes Go.WideShapes Go.ChangeAt Go.RowKit Go.Maps
set_option linter.unusedSimpArgs false
set_option linter.unusedVariables false
set_option maxRecDepth 8000

def endN (T : Nat → Nd) (i : Int) : Int := if (getN T i).live = false ∨ i = 0 then 5 else if 0 < (getN T i).used ∨ hasN T i = true then 11 else 0
def endT (T : Nat → Nd) (i : Int) : Nat → Nd := if endN T i = 0 then putT (putT T (T i.toNat).par.toNat ((T (T i.toNat).par.toNat).lend (-(T i.toNat).quota))) i.toNat Nd.zero else T
/-- each container but the root has a parent -/
def ParT (T : Nat → Nd) : Prop := ∀ k, k < 64 → k ≠ 0 → (T k).live = true → ∃ p : Nat, (T k).par = p ∧ p < 64
def Nd.new (p q : Int) : Nd := ⟨p, q, 0, 0, true⟩
def freeN (T : Nat → Nd) : Int := idxN T (fun l => !l.live)
def childN (T : Nat → Nd) (p q : Int) : Int := if mayN T p q = 0 then (if freeN T < 0 then 4 else 0) else mayN T p q
def childI (T : Nat → Nd) (p q : Int) : Int := if childN T p q = 0 then freeN T else 0
def childT (T : Nat → Nd) (p q : Int) : Nat → Nd := if childN T p q = 0 then putT (putT T (freeN T).toNat (Nd.new p q)) p.toNat ((T p.toNat).lend q) else T
set_option maxHeartbeats 1000000 in
theorem child_any (b : Nat) (T : Nat → Nd) (hT : OkT T) (p q : Int) (w : World) (h : IsTree w b T) :
    Calls Try.prog 13 #[.pointer (some ⟨b, 0, none⟩), .int .i64 p, .int .i64 q] w fun e w' => e = .returned (.tuple #[.int .i64 (childI T p q), .int .i64 (childN T p q)]) ∧ IsTree w' b (childT T p q) ∧ w.grownBy w' (some b) := by
  have M : Hid (∀ w : World, IsTree w b T → Calls Try.prog 29 #[.pointer (some ⟨b, 0, none⟩), .int .i64 p, .int .i64 q] w fun e w' => e = .returned (.int .i64 (mayN T p q)) ∧ Below w.heap.size w w') := fun w h => may_any b T hT p q w h
  have D : Hid (∀ W : World, IsTree W b T → Calls Try.prog 30 #[.slice (some ⟨b, 0, none⟩) 64 64, .func (.func 31) #[] #[]] W fun e w' => e = .returned (.int .i64 (freeN T)) ∧ Below W.heap.size W w') := fun W hT =>
    (idx0 b 31 T (fun l => !l.live) (fun _ => True) (fun _ _ _ _ => trivial) (fun args w => by kernel_rfl) (fun W l _ => free_cl l W) W hT trivial).mono fun e w' ⟨⟨r, h1, h2⟩, h3⟩ => ⟨by rw [h1, idx_eq h2]; rfl, h3⟩
  have HT : Hid (IsTree w b T) := h
  have hb := h.2.2
  by_cases c : mayN T p q = 0
  · have cN : childN T p q = if freeN T < 0 then 4 else 0 := by unfold childN; rw [if_pos c]
    rw [c] at M
    rcases idx_is T (fun l => !l.live) with ⟨r, hr6, hr, hrf, _⟩ | ⟨hr, _⟩
    · have hr' : freeN T = r := hr
      have cz : childN T p q = 0 := by rw [cN, if_neg (by omega)]
      have ci : childI T p q = r := by unfold childI; rw [if_pos cz, hr']
      have ct : childT T p q = putT (putT T r (Nd.new p q)) p.toNat ((T p.toNat).lend q) := by unfold childT; rw [if_pos cz, hr', Int.toNat_natCast]
      rw [cz, ci, ct]
      rw [hr'] at D
      obtain ⟨m1, m2, m3⟩ := may_zero c
      obtain ⟨k, rfl, hk, hg⟩ := live_in m1
      rw [hg] at m1 m3
      rw [Int.toNat_natCast]
      have hne : k ≠ r := fun e => by subst e; simp [m1] at hrf
      have hok := hT k hk
      obtain ⟨l, hl⟩ : ∃ l, T k = l := ⟨_, rfl⟩
      rw [hl] at m3 hok ⊢
      have ho1 : 0 ≤ l.lent := hok.2.2.2.2.1
      have ho2 : l.lent ≤ 1048576 := hok.2.2.2.2.2
      have ho3 : q ≤ 1048576 := by have := hok.2.1; have := hok.2.2.1; unfold Nd.room at m3; omega
      have HL : Hid (T k = l) := hl
      have HN : Hid (k ≠ r) := hne
      have e1 : decide ((r : Int) < 0) = false := by simp
      have k0 : (0 : Int) ≤ (k : Int) := by omega
      have k6 : (k : Int) < 64 := by omega
      have r0 : (0 : Int) ≤ (r : Int) := by omega
      have r6 : (r : Int) < 64 := by omega
      clear h hT c cN hr hr' cz ci ct m1 m3 hg hok hl hrf hne
      go_enter Try.func13, Try.ntmps13
      go_wp2_with fail
      refine (M.out _ HT.out).mono ?_
      rintro e u1 ⟨rfl, hb1⟩
      have B1 : Hid (Below w.heap.size w u1) := hb1
      clear hb1
      go_wp2_with fail
      refine (D.out _ (HT.out.below B1.out)).mono ?_
      rintro e u2 ⟨rfl, hb2⟩
      have B2 : Hid (Below w.heap.size w u2) := below_then B1.out hb2
      have T2 : Hid (IsTree u2 b T) := HT.out.below B2.out
      clear hb2 B1
      have TX : Hid (IsTree (u2.setCells b (r * 5) [.int .i64 k, .int .i64 q, .int .i64 0, .int .i64 0, .bool true]) b (putT T r (Nd.new k q))) := T2.out.put r hr6 (Nd.new k q)
      have GX : Hid (w.grownBy (u2.setCells b (r * 5) [.int .i64 k, .int .i64 q, .int .i64 0, .int .i64 0, .bool true]) (some b)) := grown_trans (grown_of_below B2.out _) (grown_setCells _ _ _ _)
      go_wp2_with (refine store_pat b (r * 5) #[.int .i64 k, .int .i64 q, .int .i64 0, .int .i64 0, .bool true] ?hx ?hy ?ht ?hi ?h1 ?rest; (case hx => rfl); (case hy => rfl); (case ht => exact T2.out.free _ _ (by simp; omega)); (case hi => exact node_info); (case h1 => simp [Value.oneCell']))
      try simp only [List.toList_toArray]
      clear T2 B2
      generalize u2.setCells b (r * 5) [.int .i64 k, .int .i64 q, .int .i64 0, .int .i64 0, .bool true] = X at TX GX ⊢
      have lb : b < X.heap.size := TX.out.2.2
      have c3 : X.cell? ⟨b, k * 5 + 3, none⟩ = some (.int .i64 l.lent) := TX.out.cell k hk 3 _ (by rw [put_other _ _ _ _ HN.out, HL.out]; rfl) _ rfl
      have f3 : X.frozen? ⟨b, k * 5 + 3, none⟩ = false := TX.out.unfrozen _ (by omega)
      go_wp2_with fail
      go_region
      all_goals (go_wp2_with fail; go_returns; exact ⟨rfl, (TX.out.drew.one k hk 3 _ (l.lend q) (by rw [put_other _ _ _ _ HN.out, HL.out]; rfl) (by omega) _ rfl), grown_drew (grown_trans GX.out (grown_setCell1 _ _ _ _))⟩)
    · have hr' : freeN T = -1 := hr
      have cz : childN T p q = 4 := by rw [cN, hr', if_pos (by omega)]
      have ci : childI T p q = 0 := by unfold childI; rw [if_neg (by rw [cz]; decide)]
      have ct : childT T p q = T := by unfold childT; rw [if_neg (by rw [cz]; decide)]
      rw [cz, ci, ct]
      rw [hr'] at D
      clear h hT c cN hr hr' cz ci ct
      go_enter Try.func13, Try.ntmps13
      go_wp2_with fail
      refine (M.out _ HT.out).mono ?_
      rintro e u1 ⟨rfl, hb1⟩
      have B1 : Hid (Below w.heap.size w u1) := hb1
      clear hb1
      go_wp2_with fail
      refine (D.out _ (HT.out.below B1.out)).mono ?_
      rintro e u2 ⟨rfl, hb2⟩
      have B2 : Hid (Below w.heap.size w u2) := below_then B1.out hb2
      clear hb2
      go_wp2_with fail
      go_returns
      exact ⟨rfl, HT.out.below B2.out, grown_of_below B2.out _⟩
  · have cz : childN T p q = mayN T p q := by unfold childN; rw [if_neg c]
    have ci : childI T p q = 0 := by unfold childI; rw [if_neg (by rw [cz]; exact c)]
    have ct : childT T p q = T := by unfold childT; rw [if_neg (by rw [cz]; exact c)]
    rw [cz, ci, ct]
    have cb : (mayN T p q == 0) = false := by simp [c]
    generalize mayN T p q = z at M c cb ⊢
    clear h hT cz ci ct
    go_enter Try.func13, Try.ntmps13
    go_wp2_with fail
    refine (M.out _ HT.out).mono ?_
    rintro e u1 ⟨rfl, hb1⟩
    have B1 : Hid (Below w.heap.size w u1) := hb1
    clear hb1
    go_wp2_with fail
    go_returns
    exact ⟨rfl, HT.out.below B1.out, grown_of_below B1.out _⟩
end Go.Proofs.Ytpfcpmhpekidkaa.Qu
