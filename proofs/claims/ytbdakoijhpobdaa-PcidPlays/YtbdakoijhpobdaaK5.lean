/- Tags: the document's list of who got tags: Find. -/
import Derived.Test.YtbdakoijhpobdaaK4
import Derived.Maps.AppendAt
import Derived.Laws.OwnMore
import Derived.OwnWalk
namespace Go.Proofs.Ytbdakoijhpobdaa
open Go.ChangeShapes Go.WideShapes Go.ChangeAt Go.RowKit Go.Maps
set_option linter.unusedSimpArgs false
set_option linter.unusedVariables false

/-- a tag that was given -/
structure Gv where
  sp : Int
  has : Bool
def Gv.enc (b : Gv) : List Value := [.int .i64 b.sp, .bool b.has]
def Gv.zero : Gv := ⟨0, false⟩
/-- a list of them that lies at base or above -/
def IsGv (w : World) (base : Nat) (p : Option Addr) (B : List Gv) : Prop := ∀ i, i < B.length → ∃ g, p = some ⟨g, 0, none⟩ ∧ base ≤ g ∧ g < w.heap.size ∧ ∀ j x, (B.getD i Gv.zero).enc[j]? = some x → w.cell? ⟨g, i * 2 + j, none⟩ = some x
theorem IsGv.below {w w' : World} {base : Nat} {p : Option Addr} {B : List Gv} (h : IsGv w base p B) (hb : Below w.heap.size w w') : IsGv w' base p B := fun i hi => by
  obtain ⟨g, e, l1, l2, c⟩ := h i hi
  exact ⟨g, e, l1, Nat.lt_of_lt_of_le l2 hb.size, fun j x hx => (hb.cell (p := ⟨g, i * 2 + j, none⟩) l2).trans (c j x hx)⟩
theorem IsGv.weak {w : World} {base base' : Nat} {p : Option Addr} {B : List Gv} (h : IsGv w base p B) (hb : base' ≤ base) : IsGv w base' p B := fun i hi => by
  obtain ⟨g, e, l1, l2, c⟩ := h i hi
  exact ⟨g, e, by omega, l2, c⟩
theorem IsGv.nil (w : World) (base : Nat) (p : Option Addr) : IsGv w base p [] := fun i hi => absurd hi (Nat.not_lt_zero _)
def fits (s : Int) (g : Gv) : Bool := g.has && (g.sp == s)
/-- the first that fits: its place and one; nought if there is none -/
def findV (s : Int) : List Gv → Nat → Int
  | [], _ => 0
  | g :: r, i => if fits s g = true then (i : Int) + 1 else findV s r (i + 1)
theorem findV_hit (s : Int) : ∀ (B : List Gv) (i j : Nat), j < B.length → (∀ k, k < j → fits s (B.getD k Gv.zero) = false) → fits s (B.getD j Gv.zero) = true → findV s B i = (i : Int) + j + 1
  | [], i, j, h, _, _ => absurd h (Nat.not_lt_zero _)
  | b :: r, i, 0, _, _, e => by
    have e' : fits s b = true := by simpa [List.getD] using e
    unfold findV; rw [if_pos e']; simp
  | b :: r, i, j + 1, h, n, e => by
    have n0 : fits s b = false := by simpa [List.getD] using n 0 (by omega)
    have e' : fits s (r.getD j Gv.zero) = true := by simpa [List.getD] using e
    unfold findV
    rw [if_neg (by rw [n0]; simp), findV_hit s r (i + 1) j (by simpa using h) (fun k hk => by simpa [List.getD] using n (k + 1) (by omega)) e']
    push_cast; omega
theorem findV_miss (s : Int) : ∀ (B : List Gv) (i : Nat), (∀ k, k < B.length → fits s (B.getD k Gv.zero) = false) → findV s B i = 0
  | [], _, _ => rfl
  | b :: r, i, n => by
    have n0 : fits s b = false := by simpa [List.getD] using n 0 (by simp)
    unfold findV
    rw [if_neg (by rw [n0]; simp), findV_miss s r (i + 1) (fun k hk => by simpa [List.getD] using n (k + 1) (by simpa using hk))]
theorem info5 {P : Program} {e : TypeId} {z : Value} {s b : Nat} (h : (P.info? e).map (fun i => (i.zero, i.size, i.bytes)) = some (some z, s, b)) : ∃ i : TypeInfo, P.info? e = some i ∧ i.zero = some z ∧ i.size = s ∧ i.bytes = b := by
  cases hq : P.info? e with
  | none => simp [hq] at h
  | some i =>
    simp [hq] at h
    exact ⟨i, rfl, h.1, h.2.1, h.2.2⟩
set_option maxHeartbeats 1000000 in
theorem findV_any (base : Nat) (m g : Int) (p : Option Addr) (c : Nat) (B : List Gv) (hB : B.length ≤ 100) (s : Int) (w : World) (h : IsGv w base p B) :
    Calls Try.prog 15 #[.agg #[.int .i64 m, .int .i64 g, .slice p B.length c], .int .i64 s] w fun e w' => e = .returned (.int .i64 (findV s B 0)) ∧ Below w.heap.size w w' := by
  have HB : Hid (IsGv w base p B) := h
  have HIT : Hid (∀ j, j < B.length → (∀ k, k < j → fits s (B.getD k Gv.zero) = false) → fits s (B.getD j Gv.zero) = true → findV s B 0 = (j : Int) + 1) := fun j a b c => by
    have := findV_hit s B 0 j a b c
    rw [this]; push_cast; omega
  have MISS : Hid ((∀ k, k < B.length → fits s (B.getD k Gv.zero) = false) → findV s B 0 = 0) := fun a => findV_miss s B 0 a
  clear h
  generalize findV s B 0 = z at HIT MISS ⊢
  obtain ⟨n, hn⟩ : ∃ n, B.length = n := ⟨_, rfl⟩
  have HN : Hid (B.length = n) := hn
  rw [hn] at hB ⊢
  clear hn
  go_enter Try.func15, Try.ntmps15
  go_wp2_with fail
  go_loopw [10] (fun x W => ∃ k : Nat, k ≤ n ∧ x = .int .i64 k ∧ Hid (Below w.heap.size w W) ∧ Hid (∀ j, j < k → fits s (B.getD j Gv.zero) = false)) (fun x _ => n - (intOf x).toNat)
  case atStart => exact ⟨0, by omega, rfl, Go.Joins.below_alloc1 _ _, fun j hj => absurd hj (Nat.not_lt_zero _)⟩
  case round =>
    obtain ⟨k, hk, rfl, Bl, no⟩ := hrel
    by_cases hlt : k < n
    · have hd : decide ((k : Int) < (n : Int)) = true := by simp; omega
      obtain ⟨g', rfl, g1, g2, gc⟩ := (HB.out.below Bl.out) k (by rw [HN.out]; exact hlt)
      have H1 : Hid (fits s (B.getD k Gv.zero) = true → z = (k : Int) + 1) := fun q => HIT.out k (by rw [HN.out]; exact hlt) no.out q
      have H2 : Hid (fits s (B.getD k Gv.zero) = false → ∀ j, j < k + 1 → fits s (B.getD j Gv.zero) = false) := fun q j hj => by
        by_cases e : j = k
        · rw [e]; exact q
        · exact no.out j (by omega)
      generalize hbx : B.getD k Gv.zero = bx at gc H1
      have H3 : Hid (fits s bx = false → ∀ j, j < k + 1 → fits s (B.getD j Gv.zero) = false) := fun q => H2.out (by rw [hbx]; exact q)
      clear H2 hbx
      obtain ⟨bs, bh⟩ := bx
      have y0 : wr.cell? ⟨g', k * 2, none⟩ = some (.int .i64 bs) := gc 0 _ rfl
      have y1 : wr.cell? ⟨g', k * 2 + 1, none⟩ = some (.bool bh) := gc 1 _ rfl
      have FE : Hid (fits s ⟨bs, bh⟩ = (bh && (bs == s))) := rfl
      clear gc
      cases bh
      · have N2 : Hid (∀ j, j < k + 1 → fits s (B.getD j Gv.zero) = false) := H3.out rfl
        clear H1 H3 FE
        go_wp2_with fail
        go_roundw
        case rel => exact ⟨k + 1, by omega, by go_num, below_new Bl.out _, N2⟩
        case measure => simp [intOf]; omega
      · by_cases c : bs = s
        · have e1 : (bs == s) = true := by simp [c]
          have ez := H1.out (by rw [FE.out, e1]; rfl)
          subst ez
          clear c H1 H3 FE HIT MISS
          go_wp2_with fail
          go_ret
          exact ⟨rfl, below_new Bl.out _⟩
        · have e1 : (bs == s) = false := by simp [c]
          have N2 : Hid (∀ j, j < k + 1 → fits s (B.getD j Gv.zero) = false) := H3.out (by rw [FE.out, e1]; rfl)
          clear c H1 H3 FE
          go_wp2_with fail
          go_roundw
          case rel => exact ⟨k + 1, by omega, by go_num, below_new Bl.out _, N2⟩
          case measure => simp [intOf]; omega
    · obtain rfl : k = n := by omega
      have hd : decide ((k : Int) < (k : Int)) = false := by simp
      have ez := MISS.out (by rw [HN.out]; exact no.out)
      subst ez
      clear HIT MISS no
      go_wp2_with fail
      go_ret
      exact ⟨rfl, Bl.out⟩
end Go.Proofs.Ytbdakoijhpobdaa
