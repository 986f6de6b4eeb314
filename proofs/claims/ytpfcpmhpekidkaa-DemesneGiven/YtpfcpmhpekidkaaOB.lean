/- Boot maps: what Parse and Frames should answer. -/
import Derived.Test.YtpfcpmhpekidkaaOA
import Derived.Test.YtpfcpmhpekidkaaO8
namespace Go.Proofs.Ytpfcpmhpekidkaa.Bm
open Go.ChangeShapes Go.WideShapes Go.ChangeAt Go.RowKit Go.Maps
set_option linter.unusedSimpArgs false
set_option linter.unusedVariables false
set_option maxRecDepth 8000

/-- what Parse answers: the error's number, the areas -/
def PZ (B : Nat → Int) (n : Nat) (z : Int) (A : List Ar) : Prop :=
  (1280 < n ∧ z = 4 ∧ A = []) ∨ (n ≤ 1280 ∧ n % 20 ≠ 0 ∧ z = 14 ∧ A = []) ∨ (n ≤ 1280 ∧ n % 20 = 0 ∧ (∃ x ∈ areasL B (n / 20), ¬ Fit x) ∧ z = 3 ∧ A = []) ∨ (n ≤ 1280 ∧ n % 20 = 0 ∧ (∀ x ∈ areasL B (n / 20), Fit x) ∧ z = 0 ∧ A = areasL B (n / 20))
theorem PZ.one {B : Nat → Int} {n : Nat} {z z' : Int} {A A' : List Ar} (h : PZ B n z A) (k : PZ B n z' A') : z = z' ∧ A = A' := by
  rcases h with ⟨a, b, c⟩ | ⟨a, d, b, c⟩ | ⟨a, d, ⟨x, hx, nx⟩, b, c⟩ | ⟨a, d, e, b, c⟩ <;> rcases k with ⟨a', b', c'⟩ | ⟨a', d', b', c'⟩ | ⟨a', d', ⟨y, hy, ny⟩, b', c'⟩ | ⟨a', d', e', b', c'⟩ <;> first
    | exact ⟨b.trans b'.symm, c.trans c'.symm⟩
    | exact absurd a (by omega)
    | exact absurd d (by omega)
    | exact absurd d' (by omega)
    | exact absurd (e' x hx) nx
    | exact absurd (e y hy) ny
theorem PZ.ok {B : Nat → Int} {n : Nat} {A : List Ar} (h : PZ B n 0 A) : n ≤ 1280 ∧ n % 20 = 0 ∧ (∀ x ∈ A, Fit x) ∧ A = areasL B (n / 20) := by
  rcases h with ⟨a, b, c⟩ | ⟨a, d, b, c⟩ | ⟨a, d, _, b, c⟩ | ⟨a, d, e, b, c⟩
  · cases b
  · cases b
  · cases b
  · exact ⟨a, d, by rw [c]; exact e, c⟩
theorem PZ.bad {B : Nat → Int} {n : Nat} {z : Int} {A : List Ar} (h : PZ B n z A) (hz : z ≠ 0) : A = [] := by
  rcases h with ⟨a, b, c⟩ | ⟨a, d, b, c⟩ | ⟨a, d, _, b, c⟩ | ⟨a, d, e, b, c⟩
  · exact c
  · exact c
  · exact c
  · exact absurd b hz
theorem PZ.codes {B : Nat → Int} {n : Nat} {z : Int} {A : List Ar} (h : PZ B n z A) : z = 0 ∨ z = 3 ∨ z = 4 ∨ z = 14 := by
  rcases h with ⟨a, b, c⟩ | ⟨a, d, b, c⟩ | ⟨a, d, _, b, c⟩ | ⟨a, d, e, b, c⟩ <;> simp [b]
theorem arB_wf {B : Nat → Int} (hB : ∀ i, 0 ≤ B i ∧ B i < 256) (a : Nat) : (arB B a).wf := by
  have h1 := le_bd hB a 8
  have h2 := le_bd hB (a + 8) 8
  have h3 := le_bd hB (a + 16) 4
  exact ⟨⟨h1.1, by simpa [arB] using h1.2⟩, ⟨h2.1, by simpa [arB] using h2.2⟩, ⟨h3.1, by simpa [arB] using h3.2⟩⟩
theorem areas_wf {B : Nat → Int} (hB : ∀ i, 0 ≤ B i ∧ B i < 256) (m : Nat) : ∀ x ∈ areasL B m, x.wf := by
  intro x hx
  unfold areasL at hx
  obtain ⟨q, _, rfl⟩ := List.mem_map.1 hx
  exact arB_wf hB _
theorem fit_iff {x : Ar} (h : x.wf) : Fit x ↔ x.f + x.l < 18446744073709551616 := by
  obtain ⟨⟨a, b⟩, ⟨c, d⟩, _⟩ := h
  unfold Fit
  rw [IntKind.wrap_u64]
  constructor
  · intro k
    apply Int.not_le.1
    intro q
    apply k
    omega
  · intro k q
    omega
theorem parse_any (g o n c : Nat) (B : Nat → Int) (hB : ∀ i, 0 ≤ B i ∧ B i < 256) (hc : n ≤ c) (w : World) (lg : g < w.heap.size) (hcs : ∀ i, i < n → w.cell? ⟨g, o + i, none⟩ = some (.int .u8 (B i))) :
    Calls Try.prog 20 #[.slice (some ⟨g, o, none⟩) n c] w fun e w' => ∃ v' z A, e = .returned (.tuple #[v', .int .i64 z]) ∧ LL 3 eA w' w.heap.size v' A ∧ PZ B n z A ∧ Below w.heap.size w w' := by
  by_cases h1 : 1280 < n
  · refine (parse_big (some ⟨g, o, none⟩) n c h1 w).mono ?_
    rintro e w' ⟨rfl, hb⟩
    exact ⟨_, 4, [], rfl, ll_nil _ _ _ _, Or.inl ⟨h1, rfl, rfl⟩, hb⟩
  · by_cases h2 : n % 20 ≠ 0
    · refine (parse_end (some ⟨g, o, none⟩) n c (by omega) h2 w).mono ?_
      rintro e w' ⟨rfl, hb⟩
      exact ⟨_, 14, [], rfl, ll_nil _ _ _ _, Or.inr (Or.inl ⟨by omega, h2, rfl, rfl⟩), hb⟩
    · refine (parse_loop g o (n / 20) n c B hB (by omega) (by omega) hc w lg hcs).mono ?_
      rintro e w' ⟨⟨v', rfl, ho, hf⟩ | ⟨rfl, hx⟩, hb⟩
      · exact ⟨v', 0, _, rfl, ol_ll eA_len ho, Or.inr (Or.inr (Or.inr ⟨by omega, by omega, hf, rfl, rfl⟩)), hb⟩
      · exact ⟨_, 3, [], rfl, ll_nil _ _ _ _, Or.inr (Or.inr (Or.inl ⟨by omega, by omega, hx, rfl, rfl⟩)), hb⟩

/-- the frames of an area that may be used, below a number -/
def useR (F : Int) (x : Ar) : Int × Int := ((x.f + 4095) / 4096, min ((x.f + x.l) / 4096) F)
/-- the frames of a reserved area -/
def tchR (x : Ar) : Int × Int := if x.l = 0 then (0, 0) else (x.f / 4096, (x.f + x.l - 1) / 4096 + 1)
def useL (F : Int) (A : List Ar) : List (Int × Int) := (A.filter (fun x => decide (x.k = 1))).map (useR F)
def awayL (k : Int × Int) (A : List Ar) : List (Int × Int) := k :: (A.filter (fun x => decide (x.k ≠ 1))).map tchR
theorem use_len (F : Int) (A : List Ar) : (useL F A).length ≤ A.length := by unfold useL; rw [List.length_map]; exact List.length_filter_le _ _
theorem away_len (k : Int × Int) (A : List Ar) : (awayL k A).length ≤ A.length + 1 := by
  have := List.length_filter_le (fun x : Ar => decide (x.k ≠ 1)) A
  unfold awayL; rw [List.length_cons, List.length_map]; omega
theorem take_next {α : Type} (L : List α) (i : Nat) (h : i < L.length) : L.take (i + 1) = L.take i ++ [L[i]] := List.take_succ_eq_append_getElem h
theorem use_yes {F : Int} {A : List Ar} {i : Nat} (h : i < A.length) (hk : A[i].k = 1) : useL F (A.take (i + 1)) = useL F (A.take i) ++ [useR F A[i]] := by
  unfold useL; rw [take_next A i h, List.filter_append]; simp [List.filter_cons, hk]
theorem use_no {F : Int} {A : List Ar} {i : Nat} (h : i < A.length) (hk : A[i].k ≠ 1) : useL F (A.take (i + 1)) = useL F (A.take i) := by
  unfold useL; rw [take_next A i h, List.filter_append]; simp [List.filter_cons, hk]
theorem away_yes {k : Int × Int} {A : List Ar} {i : Nat} (h : i < A.length) (hk : A[i].k ≠ 1) : awayL k (A.take (i + 1)) = awayL k (A.take i) ++ [tchR A[i]] := by
  unfold awayL; rw [take_next A i h, List.filter_append]; simp [List.filter_cons, hk]
theorem away_no {k : Int × Int} {A : List Ar} {i : Nat} (h : i < A.length) (hk : A[i].k = 1) : awayL k (A.take (i + 1)) = awayL k (A.take i) := by
  unfold awayL; rw [take_next A i h, List.filter_append]; simp [List.filter_cons, hk]
/-- is a frame one that may be used? -/
def FR (F : Int) (k : Int × Int) (A : List Ar) (x : Int) : Prop := Has (useL F A) x ∧ ¬ Has (awayL k A) x
def Good (F : Int) (k : Int × Int) : Prop := 1 ≤ F ∧ F ≤ 1048576 ∧ 0 ≤ k.1 ∧ k.1 ≤ k.2 ∧ k.2 ≤ F
/-- what Frames answers: the error's number, the ranges -/
def FZ (B : Nat → Int) (n : Nat) (F : Int) (k : Int × Int) (z : Int) (M : List (Int × Int)) : Prop :=
  (¬ Good F k ∧ z = 1 ∧ M = []) ∨ (Good F k ∧ ∃ z' A, PZ B n z' A ∧ z' ≠ 0 ∧ z = z' ∧ M = []) ∨ (Good F k ∧ ∃ A, PZ B n 0 A ∧ Can M ∧ (∀ x, Has M x ↔ FR F k A x) ∧ z = if M.length = 0 then 7 else 0)
theorem FZ.one {B : Nat → Int} {n : Nat} {F : Int} {k : Int × Int} {z z' : Int} {M M' : List (Int × Int)} (h : FZ B n F k z M) (h' : FZ B n F k z' M') : z = z' ∧ M = M' := by
  rcases h with ⟨a, b, c⟩ | ⟨a, y, A, p, q, b, c⟩ | ⟨a, A, p, q, r, b⟩ <;> rcases h' with ⟨a', b', c'⟩ | ⟨a', y', A', p', q', b', c'⟩ | ⟨a', A', p', q', r', b'⟩
  · exact ⟨b.trans b'.symm, c.trans c'.symm⟩
  · exact absurd a' a
  · exact absurd a' a
  · exact absurd a a'
  · exact ⟨b.trans ((p.one p').1.trans b'.symm), c.trans c'.symm⟩
  · exact absurd (p.one p').1 q
  · exact absurd a a'
  · exact absurd (p'.one p).1 q'
  · obtain rfl := (p.one p').2
    have e := can_eq M M' q q' (fun x => (r x).trans (r' x).symm)
    exact ⟨by rw [b, b', e], e⟩
theorem FZ.codes {B : Nat → Int} {n : Nat} {F : Int} {k : Int × Int} {z : Int} {M : List (Int × Int)} (h : FZ B n F k z M) : z = 0 ∨ z = 1 ∨ z = 3 ∨ z = 4 ∨ z = 7 ∨ z = 14 := by
  rcases h with ⟨a, b, c⟩ | ⟨a, y, A, p, q, b, c⟩ | ⟨a, A, p, q, r, b⟩
  · simp [b]
  · rcases p.codes with e | e | e | e <;> simp [b, e]
  · rw [b]; split <;> simp
theorem FZ.none {B : Nat → Int} {n : Nat} {F : Int} {k : Int × Int} {z : Int} {M : List (Int × Int)} (h : FZ B n F k z M) (hz : z ≠ 0) : M = [] := by
  rcases h with ⟨a, b, c⟩ | ⟨a, y, A, p, q, b, c⟩ | ⟨a, A, p, q, r, b⟩
  · exact c
  · exact c
  · by_cases e : M.length = 0
    · exact List.eq_nil_of_length_eq_zero e
    · rw [if_neg e] at b; exact absurd b hz
/-- two lists in the making -/
structure TW (w0 : World) (v u : Value) (A B : List (Int × Int)) (W : World) : Prop where
  o1 : OR W w0.heap.size v A
  o2 : OR W w0.heap.size u B
  ne : ∀ g, v.ownBlock = some g → u.ownBlock ≠ some g
  bel : Below w0.heap.size w0 W
theorem TW.below {w0 W W' : World} {v u : Value} {A B : List (Int × Int)} (H : TW w0 v u A B W) (hb : Below W.heap.size W W') : TW w0 v u A B W' := ⟨row_below H.o1 hb, row_below H.o2 hb, H.ne, below_then H.bel hb⟩
theorem TW.swap {w0 W : World} {v u : Value} {A B : List (Int × Int)} (H : TW w0 v u A B W) : TW w0 u v B A W := ⟨H.o2, H.o1, fun g e h => H.ne g h e, H.bel⟩
theorem TW.app {w0 W : World} {v u : Value} {A B : List (Int × Int)} (H : TW w0 v u A B W) (hA : A.length ≤ 1048576) (x : Int × Int) :
    ∃ v' W2, (Builtin.append_ #[25, 25] 25 #[v, .slice (some ⟨W.heap.size, 0, none⟩) 1 1]).run Try.prog (W.alloc (.cells #[.int .i64 x.1, .int .i64 x.2] 30)) = .ok v' W2 ∧ TW w0 v' u (A ++ [x]) B W2 := by
  obtain ⟨v', W2, r, ho, hg, hat⟩ := app_row eR_len eR_one (by decide) Try.underlying25 infoR rfl (by decide) w0.heap.size v A x hA W H.o1 H.bel.size
  have hb := Go.Joins.below_alloc1 W (.cells (eR x).toArray 30)
  have o2 := row_below H.o2 hb
  refine ⟨v', W2, r, ho, row_keep o2 (fun g e => hg.block g (row_lt o2 g e).2 (fun h => H.ne g h.symm e)), fun g e h => ?_, (below_new H.bel _).grown hg (by rw [World.size_alloc]; have := H.bel.size; omega) (fun g e => (row_lt H.o1 g e).1)⟩
  rcases hat with q | q
  · exact H.ne g (by rw [← q]; exact e) h
  · have h1 := (row_lt H.o2 g h).2
    rw [q] at e
    have := Option.some.inj e
    omega
end Go.Proofs.Ytpfcpmhpekidkaa.Bm
