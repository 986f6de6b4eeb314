/- The lines: the document's list of lines is the table's. -/
import Derived.Test.YtihedjlcjkbjfaaU4
namespace Go.Proofs.Ytihedjlcjkbjfaa
open Go.ChangeShapes Go.WideShapes Go.ChangeAt Go.RowKit Go.Maps
set_option linter.unusedSimpArgs false
set_option linter.unusedVariables false
set_option maxRecDepth 8000

/-- a line as the document's, with its way -/
structure Rl where
  y : Int
  t : Int
  p : Int
  f : Int
  w : Bool
  u : Bool
  x : Bool
  g : Bool
  d : Bool
def toldR (l : Ln) (y : Int) : Rl := ⟨y, l.t, l.p, l.f, l.w, l.u, l.x, l.g, l.d⟩
def Rl.zero : Rl := ⟨0, 0, 0, 0, false, false, false, false, false⟩
def Rl.fits (r : Rl) (tag page : Int) : Bool := r.p == page && (r.g || r.t == tag)
def Rl.before (a b : Rl) : Bool := decide (a.p.tmod 8 < b.p.tmod 8) || (a.p.tmod 8 == b.p.tmod 8 && decide (a.y < b.y))
/-- the lines of the table, in order, as the document's -/
def rowT (T : Nat → Ln) : Nat → List Rl
  | 0 => []
  | m + 1 => rowT T m ++ (if (T m).v then [toldR (T m) ((m % 2 : Nat) : Int)] else [])
theorem row_yes (T : Nat → Ln) (m : Nat) (h : (T m).v = true) : rowT T (m + 1) = rowT T m ++ [toldR (T m) ((m % 2 : Nat) : Int)] := by simp [rowT, h]
theorem row_no (T : Nat → Ln) (m : Nat) (h : (T m).v = false) : rowT T (m + 1) = rowT T m := by simp [rowT, h]
def goneF (x r : Rl) : Bool := r.fits x.t x.p || ((x.g && r.p == x.p) || (r.p.tmod 8 == x.p.tmod 8 && r.y == x.y))
def fstep (x : Rl) (s : List Rl × Bool) (r : Rl) : List Rl × Bool := if goneF x r = true then s else if (!s.2 && x.before r) = true then (s.1 ++ [x] ++ [r], true) else (s.1 ++ [r], s.2)
def fillS (L : List Rl) (x : Rl) : List Rl × Bool := L.foldl (fstep x) ([], false)
def fillR (L : List Rl) (x : Rl) : List Rl := if (fillS L x).2 = true then (fillS L x).1 else (fillS L x).1 ++ [x]
theorem fill_snoc (L : List Rl) (x r : Rl) : fillS (L ++ [r]) x = fstep x (fillS L x) r := by unfold fillS; rw [List.foldl_append]; rfl
theorem mod8 {a : Int} (h : 0 ≤ a) : a.tmod 8 = a % 8 := Int.tmod_eq_emod_of_nonneg h
theorem gone_is {l m : Ln} {y n : Nat} (hy : y < 2) (hp : 0 ≤ l.p) (hv : m.v = true) (mp : 0 ≤ m.p) (pl : n / 2 = (m.p % 8).toNat) :
    goneF (toldR l y) (toldR m ((n % 2 : Nat) : Int)) = (l.beats m || decide (n = 2 * (l.p % 8).toNat + y)) := by
  have e : ((m.p.tmod 8 == l.p.tmod 8) && (((n % 2 : Nat) : Int) == (y : Int))) = decide (n = 2 * (l.p % 8).toNat + y) := by
    rw [mod8 hp, mod8 mp]
    rw [Bool.eq_iff_iff]
    simp only [Bool.and_eq_true, beq_iff_eq, decide_eq_true_eq]
    omega
  unfold goneF toldR Rl.fits Ln.beats Ln.fits
  simp only
  rw [e, hv]
  cases (m.p == l.p) <;> cases (m.t == l.t) <;> cases m.g <;> cases l.g <;> simp
theorem before_is {l m : Ln} {y n : Nat} (hy : y < 2) (hp : 0 ≤ l.p) (mp : 0 ≤ m.p) (pl : n / 2 = (m.p % 8).toNat) :
    (toldR l y).before (toldR m ((n % 2 : Nat) : Int)) = decide (2 * (l.p % 8).toNat + y < n) := by
  unfold Rl.before toldR
  simp only
  rw [mod8 hp, mod8 mp, Bool.eq_iff_iff]
  simp only [Bool.or_eq_true, Bool.and_eq_true, beq_iff_eq, decide_eq_true_eq]
  omega
theorem fillT_at (T : Nat → Ln) (y : Nat) (l : Ln) (n : Nat) (hn : n < 16) : fillT T y l n = if n = 2 * (l.p % 8).toNat + y then l else (if l.beats (T n) then Ln.zero else T n) := by
  unfold fillT dropT
  rw [if_pos hn, Int.toNat_natCast]
theorem fill_inv {T : Nat → Ln} (g : GoodL T) (y : Nat) (hy : y < 2) (l : Ln) (hv : l.v = true) (hp : 0 ≤ l.p) : ∀ n, n ≤ 16 →
    (n ≤ 2 * (l.p % 8).toNat + y → fillS (rowT T n) (toldR l y) = (rowT (fillT T y l) n, false)) ∧
    (2 * (l.p % 8).toNat + y < n → ((fillS (rowT T n) (toldR l y)).2 = true ∧ (fillS (rowT T n) (toldR l y)).1 = rowT (fillT T y l) n) ∨ ((fillS (rowT T n) (toldR l y)).2 = false ∧ (fillS (rowT T n) (toldR l y)).1 ++ [toldR l y] = rowT (fillT T y l) n))
  | 0, _ => ⟨fun _ => rfl, fun h => by omega⟩
  | n + 1, hn => by
    obtain ⟨i1, i2⟩ := fill_inv g y hy l hv hp n (by omega)
    have ft := fillT_at T y l n (by omega)
    by_cases e : n = 2 * (l.p % 8).toNat + y
    · -- its own place
      rw [if_pos e] at ft
      have k : fillS (rowT T (n + 1)) (toldR l y) = fillS (rowT T n) (toldR l y) := by
        cases v : (T n).v
        · rw [row_no T n v]
        · obtain ⟨p1, p2⟩ := g.place n (by omega) v
          rw [row_yes T n v, fill_snoc]
          unfold fstep
          rw [if_pos]
          rw [gone_is hy hp v p1 p2, decide_eq_true e, Bool.or_true]
      have r : rowT (fillT T y l) (n + 1) = rowT (fillT T y l) n ++ [toldR l y] := by
        rw [row_yes _ n (by rw [ft]; exact hv), ft]
        congr 3
        omega
      refine ⟨fun h => by omega, fun _ => Or.inr ?_⟩
      rw [k, i1 (by omega), r]
      exact ⟨rfl, rfl⟩
    · rw [if_neg e] at ft
      cases v : (T n).v
      · have fv : (fillT T y l n).v = false := by rw [ft]; split; rfl; exact v
        rw [row_no T n v, row_no _ n fv]
        exact ⟨fun h => i1 (by omega), fun h => i2 (by omega)⟩
      · obtain ⟨p1, p2⟩ := g.place n (by omega) v
        cases b : l.beats (T n)
        · have ft2 : fillT T y l n = T n := by rw [ft, b]; rfl
          have gn : goneF (toldR l y) (toldR (T n) ((n % 2 : Nat) : Int)) = false := by rw [gone_is hy hp v p1 p2, b, decide_eq_false e]; rfl
          have bf := before_is (m := T n) hy hp p1 p2
          rw [row_yes T n v, row_yes _ n (by rw [ft2]; exact v), ft2, fill_snoc]
          unfold fstep
          rw [if_neg (by rw [gn]; simp), bf]
          refine ⟨fun h => ?_, fun h => ?_⟩
          · rw [i1 (by omega), decide_eq_false (by omega)]
            simp
          · rw [decide_eq_true (by omega)]
            rcases i2 (by omega) with ⟨a1, a2⟩ | ⟨a1, a2⟩
            · left
              rw [a1]
              simp only [Bool.not_true, Bool.false_and]
              rw [if_neg (by simp)]
              exact ⟨rfl, by simp only; rw [a2]⟩
            · left
              rw [a1]
              simp only [Bool.not_false, Bool.true_and]
              rw [if_pos (by simp)]
              exact ⟨rfl, by simp only; rw [a2]⟩
        · have fv : (fillT T y l n).v = false := by rw [ft, b]; rfl
          have k : fillS (rowT T (n + 1)) (toldR l y) = fillS (rowT T n) (toldR l y) := by
            rw [row_yes T n v, fill_snoc]
            unfold fstep
            rw [if_pos]
            rw [gone_is hy hp v p1 p2, b, Bool.true_or]
          rw [k, row_no _ n fv]
          exact ⟨fun h => i1 (by omega), fun h => i2 (by omega)⟩
/-- Fill, in the document's words, is the table's -/
theorem fill_row {T : Nat → Ln} (g : GoodL T) (y : Nat) (hy : y < 2) (l : Ln) (hl : l.ok = true) : fillR (rowT T 16) (toldR l y) = rowT (fillT T y l) 16 := by
  have h : l.v = true ∧ 0 ≤ l.p := by unfold Ln.ok at hl; simp at hl; exact ⟨hl.1, hl.2.1.2⟩
  have i := (fill_inv g y hy l h.1 h.2 16 (Nat.le_refl _)).2 (by have := h.2; omega)
  unfold fillR
  rcases i with ⟨a, b⟩ | ⟨a, b⟩
  · rw [if_pos a, b]
  · rw [if_neg (by rw [a]; simp), b]
def goneW (k a b : Int) (r : Rl) : Bool := (k == 1 && (r.p.tmod 8 == a && r.y == b)) || ((k == 2 && r.fits a b) || ((k == 3 && (r.t == a && !r.g)) || (k == 4 && (a == 0 || !r.g))))
def withoutR (L : List Rl) (k a b : Int) : List Rl := L.filter (fun r => !goneW k a b r)
theorem row_filter (T T' : Nat → Ln) (q : Rl → Bool) : ∀ n, (∀ i, i < n → (T i).v = true → (T' i).v = !q (toldR (T i) ((i % 2 : Nat) : Int)) ∧ ((T' i).v = true → T' i = T i)) → (∀ i, i < n → (T i).v = false → (T' i).v = false) → (rowT T n).filter (fun r => !q r) = rowT T' n
  | 0, _, _ => rfl
  | n + 1, h, h' => by
    have ih := row_filter T T' q n (fun i hi => h i (by omega)) (fun i hi => h' i (by omega))
    cases v : (T n).v
    · rw [row_no T n v, row_no T' n (h' n (by omega) v), ih]
    · obtain ⟨a, b⟩ := h n (by omega) v
      rw [row_yes T n v, List.filter_append, ih]
      cases c : q (toldR (T n) ((n % 2 : Nat) : Int))
      · rw [c] at a
        rw [row_yes T' n (by rw [a]; rfl), b (by rw [a]; rfl)]
        rw [List.filter_cons, if_pos (by rw [c]; rfl)]; rfl
      · rw [c] at a
        rw [row_no T' n (by rw [a]; rfl)]
        rw [List.filter_cons, if_neg (by rw [c]; simp)]; simp
theorem row_drop (T : Nat → Ln) (f : Ln → Bool) (q : Rl → Bool) (h : ∀ i, i < 16 → (T i).v = true → q (toldR (T i) ((i % 2 : Nat) : Int)) = f (T i)) : (rowT T 16).filter (fun r => !q r) = rowT (dropT T f 16) 16 := by
  refine row_filter T _ q 16 (fun i hi v => ?_) (fun i hi v => ?_)
  · unfold dropT
    rw [if_pos hi, h i hi v]
    cases f (T i)
    · simp [v]
    · simp [Ln.zero]
  · unfold dropT
    rw [if_pos hi]
    split
    · rfl
    · exact v
theorem row_evict {T : Nat → Ln} (g : GoodL T) (a b : Nat) (ha : a < 8) (hb : b < 2) : withoutR (rowT T 16) 1 a b = rowT (evictT T (2 * a + b)) 16 := by
  refine row_filter T _ (goneW 1 a b) 16 (fun i hi v => ?_) (fun i hi v => ?_)
  · obtain ⟨p1, p2⟩ := g.place i hi v
    have e : goneW 1 a b (toldR (T i) ((i % 2 : Nat) : Int)) = decide (i = 2 * a + b) := by
      unfold goneW toldR
      simp only
      rw [mod8 p1, Bool.eq_iff_iff]
      simp
      omega
    rw [e]
    unfold evictT
    by_cases q : i = 2 * a + b
    · rw [if_pos q, decide_eq_true q]; simp [Ln.zero]
    · rw [if_neg q, decide_eq_false q]; simp [v]
  · unfold evictT
    split
    · rfl
    · exact v
theorem row_page (T : Nat → Ln) (a b : Int) : withoutR (rowT T 16) 2 a b = rowT (dropT T (fun l => l.fits a b) 16) 16 :=
  row_drop T _ (goneW 2 a b) (fun i hi v => by
    unfold goneW toldR Rl.fits Ln.fits
    simp [v]
    cases ((T i).p == b) <;> cases (T i).g <;> cases ((T i).t == a) <;> simp)
theorem row_tag (T : Nat → Ln) (a : Int) : withoutR (rowT T 16) 3 a 0 = rowT (dropT T (fun l => l.t == a && !l.g) 16) 16 :=
  row_drop T _ (goneW 3 a 0) (fun i hi v => by unfold goneW toldR; simp)
theorem row_all (T : Nat → Ln) (a : Int) : withoutR (rowT T 16) 4 a 0 = rowT (dropT T (fun l => !(!(a == 0)) || !l.g) 16) 16 :=
  row_drop T _ (goneW 4 a 0) (fun i hi v => by unfold goneW toldR; simp)
theorem row_zero : ∀ n, rowT (fun _ => Ln.zero) n = []
  | 0 => rfl
  | n + 1 => by rw [row_no _ n rfl, row_zero n]
/-- the lists go side by side -/
theorem row_len (T : Nat → Ln) : ∀ n, (rowT T n).length = (linesT T n).length
  | 0 => rfl
  | n + 1 => by
    cases v : (T n).v
    · rw [row_no T n v, lines_no T n v]; exact row_len T n
    · rw [row_yes T n v, lines_yes T n v, List.length_append, List.length_append, row_len T n]; rfl
theorem row_at (T : Nat → Ln) : ∀ n k, k < (linesT T n).length → ((linesT T n).getD k Ln.zero).v = true ∧ toldR ((linesT T n).getD k Ln.zero) ((rowT T n).getD k Rl.zero).y = (rowT T n).getD k Rl.zero
  | 0, k, h => by simp [linesT] at h
  | n + 1, k, h => by
    cases v : (T n).v
    · rw [row_no T n v, lines_no T n v]
      rw [lines_no T n v] at h
      exact row_at T n k h
    · rw [row_yes T n v, lines_yes T n v]
      rw [lines_yes T n v, List.length_append] at h
      by_cases q : k < (linesT T n).length
      · have ih := row_at T n k q
        have e1 : (linesT T n ++ [T n]).getD k Ln.zero = (linesT T n).getD k Ln.zero := by simp [List.getD, List.getElem?_append_left q]
        have e2 : (rowT T n ++ [toldR (T n) ((n % 2 : Nat) : Int)]).getD k Rl.zero = (rowT T n).getD k Rl.zero := by
          have q' : k < (rowT T n).length := by rw [row_len]; exact q
          simp [List.getD, List.getElem?_append_left q']
        rw [e1, e2]; exact ih
      · have ek : k = (linesT T n).length := by simp at h; omega
        have e1 : (linesT T n ++ [T n]).getD k Ln.zero = T n := by rw [ek]; simp [List.getD]
        have e2 : (rowT T n ++ [toldR (T n) ((n % 2 : Nat) : Int)]).getD k Rl.zero = toldR (T n) ((n % 2 : Nat) : Int) := by rw [ek, ← row_len T n]; simp [List.getD]
        rw [e1, e2]
        exact ⟨v, rfl⟩
def findL (L : List Rl) (tag page : Int) : Rl × Bool :=
  match L with
  | [] => (Rl.zero, false)
  | r :: l => if r.fits tag page = true then (r, true) else findL l tag page
theorem findL_append (tag page : Int) (M : List Rl) : ∀ L : List Rl, findL (L ++ M) tag page = if (findL L tag page).2 = true then findL L tag page else findL M tag page
  | [] => by simp [findL]
  | r :: l => by
    show (if r.fits tag page = true then (r, true) else findL (l ++ M) tag page) = _
    rw [findL_append tag page M l]
    show _ = if (if r.fits tag page = true then (r, true) else findL l tag page).2 = true then (if r.fits tag page = true then (r, true) else findL l tag page) else findL M tag page
    by_cases q : r.fits tag page = true
    · rw [if_pos q, if_pos q, if_pos rfl]
    · rw [if_neg q, if_neg q]
theorem told_fits (l : Ln) (y tag page : Int) (v : l.v = true) : (toldR l y).fits tag page = l.fits tag page := by
  unfold Rl.fits toldR Ln.fits
  simp only [v, Bool.true_and]
  cases (l.t == tag) <;> cases l.g <;> simp
theorem findL_no (T : Nat → Ln) (tag page : Int) : ∀ n, (∀ i, i < n → (T i).fits tag page = false) → findL (rowT T n) tag page = (Rl.zero, false)
  | 0, _ => rfl
  | n + 1, h => by
    have ih := findL_no T tag page n (fun i hi => h i (by omega))
    cases v : (T n).v
    · rw [row_no T n v, ih]
    · rw [row_yes T n v, findL_append, ih]
      simp only
      rw [if_neg (by simp)]
      show (if (toldR (T n) _).fits tag page = true then _ else findL [] tag page) = _
      rw [told_fits _ _ _ _ v, h n (by omega)]
      rfl
theorem findL_yes {T : Nat → Ln} (tag page : Int) (i0 : Nat) (h : (T i0).fits tag page = true) : ∀ n, i0 < n → (∀ i, i < n → i ≠ i0 → (T i).fits tag page = false) → findL (rowT T n) tag page = (toldR (T i0) ((i0 % 2 : Nat) : Int), true)
  | 0, q, _ => by omega
  | n + 1, q, u => by
    by_cases e : i0 = n
    · subst e
      have v : (T i0).v = true := by unfold Ln.fits at h; simp at h; exact h.1
      rw [row_yes T i0 v, findL_append, findL_no T tag page i0 (fun i hi => u i (by omega) (by omega))]
      simp only
      rw [if_neg (by simp)]
      show (if (toldR (T i0) _).fits tag page = true then _ else findL [] tag page) = _
      rw [told_fits _ _ _ _ v, h]
      rfl
    · have ih := findL_yes tag page i0 h n (by omega) (fun i hi ne => u i (by omega) ne)
      cases v : (T n).v
      · rw [row_no T n v, ih]
      · rw [row_yes T n v, findL_append, ih, if_pos rfl]
end Go.Proofs.Ytihedjlcjkbjfaa
