/- Grants: Offer. -/
import Derived.Test.YtenfdcjnfgjilaaS1
namespace Go.Proofs.Ytenfdcjnfgjilaa
open Go.ChangeShapes Go.WideShapes Go.ChangeAt Go.RowKit Go.Maps
set_option linter.unusedSimpArgs false
set_option linter.unusedVariables false
set_option maxRecDepth 8000
set_option maxRecDepth 8000

/-- the first free place of so many from m on -/
def freeF (T : Nat → Gr) : Nat → Nat → Nat
  | m, 0 => m
  | m, n + 1 => if (T m).is then freeF T (m + 1) n else m
theorem free_le (T : Nat → Gr) : ∀ n m, m ≤ freeF T m n ∧ freeF T m n ≤ m + n
  | 0, m => ⟨Nat.le_refl _, Nat.le_refl _⟩
  | n + 1, m => by
    rw [freeF]
    by_cases c : (T m).is = true
    · rw [if_pos c]; have := free_le T n (m + 1); omega
    · rw [if_neg c]; omega
theorem free_all (T : Nat → Gr) : ∀ n m i, m ≤ i → i < freeF T m n → (T i).is = true
  | 0, m, i, h1, h2 => by rw [freeF] at h2; omega
  | n + 1, m, i, h1, h2 => by
    rw [freeF] at h2
    by_cases c : (T m).is = true
    · rw [if_pos c] at h2
      by_cases e : i = m
      · rw [e]; exact c
      · exact free_all T n (m + 1) i (by omega) h2
    · rw [if_neg c] at h2; omega
theorem free_no (T : Nat → Gr) : ∀ n m, freeF T m n < m + n → (T (freeF T m n)).is = false
  | 0, m, h => by rw [freeF] at h; omega
  | n + 1, m, h => by
    rw [freeF] at h ⊢
    by_cases c : (T m).is = true
    · rw [if_pos c] at h ⊢; exact free_no T n (m + 1) (by omega)
    · rw [if_neg c]; simpa using c
theorem free_uniq (T : Nat → Gr) (m n r : Nat) (h1 : m ≤ r) (h2 : r ≤ m + n) (ha : ∀ i, m ≤ i → i < r → (T i).is = true) (hn : r < m + n → (T r).is = false) : freeF T m n = r := by
  have a := free_le T n m
  rcases Nat.lt_trichotomy (freeF T m n) r with c | c | c
  · have := ha _ a.1 c
    rw [free_no T n m (by omega)] at this
    cases this
  · exact c
  · have := free_all T n m r h1 c
    rw [hn (by omega)] at this
    cases this
def offB (f p d : Int) : Bool := !(isProc f) || !(isProc d) || f == d || !(isPage p)
def offE (T : Nat → Gr) (f p d : Int) : Int := if offB f p d then 1 else if freeF T (f.toNat * 16) 16 < f.toNat * 16 + 16 then 0 else 4
def offI (T : Nat → Gr) (f p d : Int) : Int := if offE T f p d = 0 then (freeF T (f.toNat * 16) 16 : Nat) else 0
def offT (T : Nat → Gr) (f p d : Int) (x : Bool) : Nat → Gr := if offE T f p d = 0 then putT T (freeF T (f.toNat * 16) 16) ⟨f, p, d, x, false, 0⟩ else T
theorem proc_in {p : Int} (h : isProc p = true) : ∃ k : Nat, p = k ∧ k < 16 := by
  unfold isProc at h
  simp at h
  exact ⟨p.toNat, by omega, by omega⟩
set_option maxHeartbeats 1000000 in
theorem offer_bad (b : Nat) (T : Nat → Gr) (f p d : Int) (x : Bool) (hB : offB f p d = true) (w : World) (h : IsTab w b T) :
    Calls Try.prog 17 #[.pointer (some ⟨b, 0, none⟩), .int .i64 f, .int .i64 p, .int .i64 d, .bool x] w fun e w' => e = .returned (.tuple #[.int .i64 0, .int .i64 1]) ∧ Below w.heap.size w w' := by
  have PF : Hid (∀ W : World, Calls Try.prog 28 #[.int .i64 f] W fun e w' => e = .returned (.bool (isProc f)) ∧ w' = W) := fun W => process_any f W
  have PD : Hid (∀ W : World, Calls Try.prog 28 #[.int .i64 d] W fun e w' => e = .returned (.bool (isProc d)) ∧ w' = W) := fun W => process_any d W
  have PP : Hid (∀ W : World, Calls Try.prog 29 #[.int .i64 p] W fun e w' => e = .returned (.bool (isPage p)) ∧ w' = W) := fun W => ownPage_any p W
  clear h
  unfold offB at hB
  generalize isProc f = z1 at PF hB
  generalize isProc d = z2 at PD hB
  generalize isPage p = z3 at PP hB
  cases z1
  · clear hB
    go_enter Try.func17, Try.ntmps17
    go_wp2_with fail
    refine (PF.out _).mono ?_
    rintro e u1 ⟨rfl, hu⟩
    replace hu := hu.symm
    subst hu
    go_wp2_with fail
    go_returns
    exact ⟨rfl, Below.refl _ _⟩
  cases z2
  · clear hB
    go_enter Try.func17, Try.ntmps17
    go_wp2_with fail
    refine (PF.out _).mono ?_
    rintro e u1 ⟨rfl, hu⟩
    replace hu := hu.symm
    subst hu
    go_wp2_with fail
    refine (PD.out _).mono ?_
    rintro e u1 ⟨rfl, hu⟩
    replace hu := hu.symm
    subst hu
    go_wp2_with fail
    go_returns
    exact ⟨rfl, Below.refl _ _⟩
  by_cases c : f = d
  · have cb : (f == d) = true := by simp [c]
    clear hB c
    go_enter Try.func17, Try.ntmps17
    go_wp2_with fail
    refine (PF.out _).mono ?_
    rintro e u1 ⟨rfl, hu⟩
    replace hu := hu.symm
    subst hu
    go_wp2_with fail
    refine (PD.out _).mono ?_
    rintro e u1 ⟨rfl, hu⟩
    replace hu := hu.symm
    subst hu
    go_wp2_with fail
    go_returns
    exact ⟨rfl, Below.refl _ _⟩
  · have cb : (f == d) = false := by simp [c]
    rw [cb] at hB
    cases z3
    · clear hB c
      go_enter Try.func17, Try.ntmps17
      go_wp2_with fail
      refine (PF.out _).mono ?_
      rintro e u1 ⟨rfl, hu⟩
      replace hu := hu.symm
      subst hu
      go_wp2_with fail
      refine (PD.out _).mono ?_
      rintro e u1 ⟨rfl, hu⟩
      replace hu := hu.symm
      subst hu
      go_wp2_with fail
      refine (PP.out _).mono ?_
      rintro e u1 ⟨rfl, hu⟩
      replace hu := hu.symm
      subst hu
      go_wp2_with fail
      go_returns
      exact ⟨rfl, Below.refl _ _⟩
    · simp at hB
set_option maxHeartbeats 1000000 in
theorem offer_in (b : Nat) (T : Nat → Gr) (f p d : Int) (x : Bool) (hB : offB f p d = false) (w : World) (h : IsTab w b T) :
    Calls Try.prog 17 #[.pointer (some ⟨b, 0, none⟩), .int .i64 f, .int .i64 p, .int .i64 d, .bool x] w fun e w' => e = .returned (.tuple #[.int .i64 (offI T f p d), .int .i64 (offE T f p d)]) ∧ IsTab w' b (offT T f p d x) ∧ w.grownBy w' (some b) := by
  have PF : Hid (∀ W : World, Calls Try.prog 28 #[.int .i64 f] W fun e w' => e = .returned (.bool (isProc f)) ∧ w' = W) := fun W => process_any f W
  have PD : Hid (∀ W : World, Calls Try.prog 28 #[.int .i64 d] W fun e w' => e = .returned (.bool (isProc d)) ∧ w' = W) := fun W => process_any d W
  have PP : Hid (∀ W : World, Calls Try.prog 29 #[.int .i64 p] W fun e w' => e = .returned (.bool (isPage p)) ∧ w' = W) := fun W => ownPage_any p W
  have hB' := hB
  unfold offB at hB
  have z1 : isProc f = true := by cases c : isProc f <;> simp [c] at hB ⊢
  have z2 : isProc d = true := by cases c : isProc d <;> simp [c] at hB ⊢
  have z3 : isPage p = true := by cases c : isPage p <;> simp [c] at hB ⊢
  have cb : (f == d) = false := by cases c : (f == d) <;> simp [c] at hB ⊢
  rw [z1] at PF
  rw [z2] at PD
  rw [z3] at PP
  obtain ⟨F, rfl, hF⟩ := proc_in z1
  have eE : offE T F p d = if freeF T (F * 16) 16 < F * 16 + 16 then 0 else 4 := by unfold offE; rw [hB', Int.toNat_natCast]; rfl
  have eI : offI T F p d = if freeF T (F * 16) 16 < F * 16 + 16 then (freeF T (F * 16) 16 : Nat) else 0 := by
    unfold offI; rw [eE, Int.toNat_natCast]; by_cases c : freeF T (F * 16) 16 < F * 16 + 16 <;> simp [c]
  have eT : offT T F p d x = if freeF T (F * 16) 16 < F * 16 + 16 then putT T (freeF T (F * 16) 16) ⟨F, p, d, x, false, 0⟩ else T := by
    unfold offT; rw [eE, Int.toNat_natCast]; by_cases c : freeF T (F * 16) 16 < F * 16 + 16 <;> simp [c]
  have K1 : ∀ m, F * 16 ≤ m → m < F * 16 + 16 → (∀ i, F * 16 ≤ i → i < m → (T i).is = true) → (T m).is = false → offI T F p d = m ∧ offE T F p d = 0 ∧ offT T F p d x = putT T m ⟨F, p, d, x, false, 0⟩ := fun m h1 h2 ha hn => by
    have e : freeF T (F * 16) 16 = m := free_uniq T _ _ m h1 (by omega) ha (fun _ => hn)
    rw [eE, eI, eT, e, if_pos h2, if_pos h2, if_pos h2]
    exact ⟨rfl, rfl, rfl⟩
  have K2 : (∀ i, F * 16 ≤ i → i < F * 16 + 16 → (T i).is = true) → offI T F p d = 0 ∧ offE T F p d = 4 ∧ offT T F p d x = T := fun ha => by
    have e : freeF T (F * 16) 16 = F * 16 + 16 := free_uniq T _ _ _ (by omega) (by omega) ha (fun h => by omega)
    rw [eE, eI, eT, e, if_neg (by omega), if_neg (by omega), if_neg (by omega)]
    exact ⟨rfl, rfl, rfl⟩
  clear eE eI eT
  generalize offI T F p d = RI at K1 K2 ⊢
  generalize offE T F p d = RE at K1 K2 ⊢
  generalize offT T F p d x = RT at K1 K2 ⊢
  have HK1 : Hid _ := K1
  have HK2 : Hid _ := K2
  clear K1 K2
  have HT : Hid (IsTab w b T) := h
  have hb := h.2.2
  have TH : Hid (∀ (l : Gr) (W : World), Calls Try.prog 27 #[l.val] W fun e w' => e = .returned (.bool l.is) ∧ w' = W.alloc (.cells l.enc.toArray 24)) := there_any
  clear h hB hB' z1 z2 z3 
  have m1 : decide ((0 : Int) ≤ F) = true := by simp
  go_enter Try.func17, Try.ntmps17
  go_wp2_with fail
  refine (PF.out _).mono ?_
  rintro e u1 ⟨rfl, hu⟩
  replace hu := hu.symm
  subst hu
  go_wp2_with fail
  refine (PD.out _).mono ?_
  rintro e u1 ⟨rfl, hu⟩
  replace hu := hu.symm
  subst hu
  go_wp2_with fail
  refine (PP.out _).mono ?_
  rintro e u1 ⟨rfl, hu⟩
  replace hu := hu.symm
  subst hu
  go_wp2_with fail
  clear PF PD PP
  go_loopw [13] (fun v W => ∃ m : Nat, F * 16 ≤ m ∧ m ≤ F * 16 + 16 ∧ v = .int .i64 m ∧ Hid (∀ i, F * 16 ≤ i → i < m → (T i).is = true) ∧ Hid (Below w.heap.size w W)) (fun v _ => F * 16 + 16 - (intOf v).toNat)
  case atStart => exact ⟨F * 16, by omega, by omega, by first | go_num | (simp; done), fun i h1 h2 => by omega, Below.refl _ _⟩
  case round =>
    obtain ⟨m, hm1, hm2, rfl, HI, B⟩ := hrel
    by_cases hlt : m < F * 16 + 16
    · have hd : decide ((m : Int) < (F : Int) * 16 + 16) = true := by simp; omega
      have hm6 : m < 256 := by omega
      have k0 : (0 : Int) ≤ (m : Int) := by omega
      have k6 : (m : Int) < 256 := by omega
      have TX : Hid (IsTab wr b T) := HT.out.below B.out
      have hb' : b < wr.heap.size := Nat.lt_of_lt_of_le hb B.out.size
      obtain ⟨l, hl⟩ : ∃ l, T m = l := ⟨_, rfl⟩
      have c0 : wr.cell? ⟨b, m * 6, none⟩ = some (.int .i64 l.fr) := TX.out.cell (m) (by omega) 0 _ (by rw [hl]; rfl) _ (by omega)
      have c1 : wr.cell? ⟨b, m * 6 + 1, none⟩ = some (.int .i64 l.pg) := TX.out.cell (m) (by omega) 1 _ (by rw [hl]; rfl) _ (by omega)
      have c2 : wr.cell? ⟨b, m * 6 + 2, none⟩ = some (.int .i64 l.dst) := TX.out.cell (m) (by omega) 2 _ (by rw [hl]; rfl) _ (by omega)
      have c3 : wr.cell? ⟨b, m * 6 + 3, none⟩ = some (.bool l.wr) := TX.out.cell (m) (by omega) 3 _ (by rw [hl]; rfl) _ (by omega)
      have c4 : wr.cell? ⟨b, m * 6 + 4, none⟩ = some (.bool l.tk) := TX.out.cell (m) (by omega) 4 _ (by rw [hl]; rfl) _ (by omega)
      have c5 : wr.cell? ⟨b, m * 6 + 5, none⟩ = some (.int .i64 l.att) := TX.out.cell (m) (by omega) 5 _ (by rw [hl]; rfl) _ (by omega)
      have tl := TH.out l
      have HL : Hid (T m = l) := hl
      clear hl TH
      obtain ⟨lf, lp, ld, lw, lt, la⟩ := l
      simp only at c0 c1 c2 c3 c4 c5
      cases hz : Gr.is ⟨lf, lp, ld, lw, lt, la⟩
      · rw [hz] at tl
        have TL : Hid _ := tl
        have HZ : Hid (Gr.is ⟨lf, lp, ld, lw, lt, la⟩ = false) := hz
        clear tl hz
        go_wp2_with fail
        refine (TL.out _).mono ?_
        rintro e u1 ⟨rfl, hu⟩
        have T1 : Hid (IsTab u1 b T) := by rw [hu]; exact TX.out.below (Go.Joins.below_alloc1 _ _)
        have B1 : Hid (Below w.heap.size w u1) := by rw [hu]; exact below_new B.out _
        have hb1 : b < u1.heap.size := Nat.lt_of_lt_of_le hb B1.out.size
        clear hu TX c0 c1 c2 c3 c4 c5 hb' TL
        go_wp2_with (refine store_pat b (m * 6) #[.int .i64 F, .int .i64 p, .int .i64 d, .bool x, .bool false, .int .i64 0] ?hx ?hy ?ht ?hi ?h1 ?rest; (case hx => rfl); (case hy => rfl); (case ht => exact T1.out.free _ _ (by simp; omega)); (case hi => exact grant_info); (case h1 => simp [Value.oneCell']); have T2 : Hid (IsTab (u1.setCells b (m * 6) [.int .i64 F, .int .i64 p, .int .i64 d, .bool x, .bool false, .int .i64 0]) b (putT T m ⟨F, p, d, x, false, 0⟩)) := (T1.out.put m hm6 ⟨F, p, d, x, false, 0⟩); have G2 : Hid (w.grownBy (u1.setCells b (m * 6) [.int .i64 F, .int .i64 p, .int .i64 d, .bool x, .bool false, .int .i64 0]) (some b)) := (grown_trans (grown_of_below B1.out _) (grown_setCells _ _ _ _)); simp only [List.toList_toArray]; generalize u1.setCells b (m * 6) [.int .i64 F, .int .i64 p, .int .i64 d, .bool x, .bool false, .int .i64 0] = X at T2 G2 ⊢; clear T1 B1 hb1)
        go_returns
        obtain ⟨rfl, rfl, rfl⟩ := HK1.out m hm1 hlt HI.out (by rw [HL.out]; exact HZ.out)
        exact ⟨rfl, T2.out, G2.out⟩
      · rw [hz] at tl
        have TL : Hid _ := tl
        have HZ : Hid (Gr.is ⟨lf, lp, ld, lw, lt, la⟩ = true) := hz
        clear tl hz
        go_wp2_with fail
        refine (TL.out _).mono ?_
        rintro e u1 ⟨rfl, hu⟩
        have B1 : Hid (Below w.heap.size w u1) := by rw [hu]; exact below_new B.out _
        clear hu TX c0 c1 c2 c3 c4 c5 hb' TL
        go_wp2_with fail
        go_roundw
        case rel => exact ⟨m + 1, by omega, by omega, by go_num, (fun i h1 h2 => by
          by_cases c : i = m
          · rw [c, HL.out]; exact HZ.out
          · exact HI.out i h1 (by omega)), B1⟩
        case measure => simp [intOf]; omega
    · obtain rfl : m = F * 16 + 16 := by omega
      have hd : decide (((F * 16 + 16 : Nat) : Int) < (F : Int) * 16 + 16) = false := by simp
      go_wp2_with fail
      go_returns
      obtain ⟨rfl, rfl, rfl⟩ := HK2.out HI.out
      exact ⟨rfl, HT.out.below B.out, grown_of_below B.out _⟩
theorem offer_any (b : Nat) (T : Nat → Gr) (f p d : Int) (x : Bool) (w : World) (h : IsTab w b T) :
    Calls Try.prog 17 #[.pointer (some ⟨b, 0, none⟩), .int .i64 f, .int .i64 p, .int .i64 d, .bool x] w fun e w' => e = .returned (.tuple #[.int .i64 (offI T f p d), .int .i64 (offE T f p d)]) ∧ IsTab w' b (offT T f p d x) ∧ w.grownBy w' (some b) := by
  by_cases c : offB f p d = true
  · have e1 : offE T f p d = 1 := by unfold offE; rw [if_pos c]
    have e2 : offI T f p d = 0 := by unfold offI; rw [e1]; rfl
    have e3 : offT T f p d x = T := by unfold offT; rw [e1]; rfl
    rw [e1, e2, e3]
    exact (offer_bad b T f p d x c w h).mono fun e w' ⟨h1, h2⟩ => ⟨h1, h.below h2, grown_of_below h2 _⟩
  · exact offer_in b T f p d x (by simpa using c) w h
end Go.Proofs.Ytenfdcjnfgjilaa
