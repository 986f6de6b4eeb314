/- The document's Has over a memory with bytes. -/
import Derived.Test.YtdfalincdgdlcaaN4
namespace Go.Proofs.Ytdfalincdgdlcaa
open Go.ChangeShapes Go.WideShapes Go.ChangeAt Go.RowKit Go.Maps
set_option linter.unusedSimpArgs false
set_option linter.unusedVariables false

set_option maxHeartbeats 4000000 in
theorem rhas_map (F k : Int) (hb cap mbx : Nat) (hs : List (Int × Int)) (w : World) (hh : HolesAt w hb hs) (hhb : hb < w.heap.size) (l9 : hs.length ≤ 70) :
    Calls Try.prog 14 #[.agg #[.int .i64 F, .slice (some ⟨hb, 0, none⟩) hs.length cap, .map (some mbx)], .int .i64 k] w fun e w' => e = .returned (.bool (hasH F hs k)) ∧ Below w.heap.size w w' := by
  have HH : Hid (HolesAt w hb hs) := hh
  clear hh
  obtain ⟨z, hz⟩ : ∃ z, hasH F hs k = z := ⟨_, rfl⟩
  rw [hz]
  have HZ : Hid (hasH F hs k = z) := hz
  clear hz
  obtain ⟨b0, hb0⟩ : ∃ b0, hasF F k = b0 := ⟨_, rfl⟩
  have HF : Hid (hasF F k = b0) := hb0
  have start : (0 ≤ k ∧ k < F ∧ b0 = true) ∨ (0 ≤ k ∧ ¬ k < F ∧ b0 = false) ∨ (¬ 0 ≤ k ∧ b0 = false) := by
    rw [← hb0]; unfold hasF
    by_cases a : 0 ≤ k
    · by_cases b : k < F
      · exact Or.inl ⟨a, b, by simp [a, b]⟩
      · exact Or.inr (Or.inl ⟨a, b, by simp [b]⟩)
    · exact Or.inr (Or.inr ⟨a, by simp [a]⟩)
  clear hb0
  have loop : Hid (∀ (x : Bool) (j : Nat) (f t : Int), hs[j]? = some (f, t) → (b0 && !inH (hs.take j) k) = x → (b0 && !inH (hs.take (j + 1)) k) = (x && !(decide (f ≤ k) && decide (k < t)))) := fun x j f t h e => by
    rw [in_take hs k j f t h, ← e]
    cases b0 <;> cases inH (hs.take j) k <;> simp
  rcases start with ⟨a, b, rfl⟩ | ⟨a, b, rfl⟩ | ⟨a, rfl⟩
  · have d0 : decide (0 ≤ k) = true := by simp [a]
    have d1 : decide (k < F) = true := by simp [b]
    go_enter Try.func14, Try.ntmps14
    go_wp2_with fail
    go_loopw [5, 19] (fun y i wr => ∃ (j : Nat) (x : Bool), j ≤ hs.length ∧ y = .bool x ∧ i = .int .i64 j ∧ Hid (w.grownBy wr none) ∧ Hid ((true && !inH (hs.take j) k) = x)) (fun _ i _ => hs.length - (intOf i).toNat)
    case atStart => exact ⟨0, true, by omega, rfl, rfl, World.grownBy_alloc _ _ none, (by show (true && !inH (hs.take 0) k) = true; simp [inH])⟩
    case round =>
      obtain ⟨j, x, hj, rfl, rfl, hg, hx⟩ := hrel
      have hb2 := hg.out.block hb hhb (by simp)
      by_cases cj : j < hs.length
      · have hdj : decide ((j : Int) < (hs.length : Int)) = true := by simp; omega
        obtain ⟨f, t, hft⟩ : ∃ f t : Int, hs[j]? = some (f, t) := ⟨(hs[j]).1, (hs[j]).2, by rw [List.getElem?_eq_getElem cj]⟩
        have q1 : wr.cell? ⟨hb, j * 2, none⟩ = some (.int .i64 f) := by rw [World.cell?_of_block (w := w) (a := ⟨hb, j * 2, none⟩) hb2]; exact (HH.out j _ hft).1
        have q2 : wr.cell? ⟨hb, j * 2 + 1, none⟩ = some (.int .i64 t) := by rw [World.cell?_of_block (w := w) (a := ⟨hb, j * 2 + 1, none⟩) hb2]; exact (HH.out j _ hft).2
        have NX := loop.out x j f t hft hx.out
        have NX' : Hid _ := NX
        clear NX hft hb2
        cases x
        · have N2 : Hid ((true && !inH (hs.take (j + 1)) k) = false) := by have := NX'.out; rw [this]; rfl
          clear NX'
          go_wp2_with fail
          go_roundw
          case rel => exact ⟨j + 1, false, by omega, rfl, by go_num, grown_trans hg.out (World.grownBy_alloc _ _ none), N2⟩
          case measure => simp [intOf]; omega
        · by_cases c1 : f ≤ k
          · have e1 : decide (f ≤ k) = true := by simp [c1]
            by_cases c2 : k < t
            · have e2 : decide (k < t) = true := by simp [c2]
              have N2 : Hid ((true && !inH (hs.take (j + 1)) k) = false) := by have := NX'.out; rw [this, e1, e2]; rfl
              clear NX'
              go_wp2_with fail
              go_roundw
              case rel => exact ⟨j + 1, false, by omega, rfl, by go_num, grown_trans hg.out (World.grownBy_alloc _ _ none), N2⟩
              case measure => simp [intOf]; omega
            · have e2 : decide (k < t) = false := by simp; omega
              have N2 : Hid ((true && !inH (hs.take (j + 1)) k) = true) := by have := NX'.out; rw [this, e1, e2]; rfl
              clear NX'
              go_wp2_with fail
              go_roundw
              case rel => exact ⟨j + 1, true, by omega, rfl, by go_num, grown_trans hg.out (World.grownBy_alloc _ _ none), N2⟩
              case measure => simp [intOf]; omega
          · have e1 : decide (f ≤ k) = false := by simp; omega
            have N2 : Hid ((true && !inH (hs.take (j + 1)) k) = true) := by have := NX'.out; rw [this, e1]; rfl
            clear NX'
            go_wp2_with fail
            go_roundw
            case rel => exact ⟨j + 1, true, by omega, rfl, by go_num, grown_trans hg.out (World.grownBy_alloc _ _ none), N2⟩
            case measure => simp [intOf]; omega
      · obtain rfl : j = hs.length := by omega
        have e9 : x = z := by
          have h1 := hx.out
          rw [List.take_length] at h1
          rw [← h1, ← HZ.out]; unfold hasH; rw [HF.out]
        subst e9
        clear loop
        go_wp2_with fail
        go_ret
        exact ⟨rfl, below_none hg.out⟩
  · have d0 : decide (0 ≤ k) = true := by simp [a]
    have d1 : decide (k < F) = false := by simp; omega
    go_enter Try.func14, Try.ntmps14
    go_wp2_with fail
    go_loopw [5, 19] (fun y i wr => ∃ (j : Nat) (x : Bool), j ≤ hs.length ∧ y = .bool x ∧ i = .int .i64 j ∧ Hid (w.grownBy wr none) ∧ Hid ((false && !inH (hs.take j) k) = x)) (fun _ i _ => hs.length - (intOf i).toNat)
    case atStart => exact ⟨0, false, by omega, rfl, rfl, World.grownBy_alloc _ _ none, (by show (false && !inH (hs.take 0) k) = false; simp [inH])⟩
    case round =>
      obtain ⟨j, x, hj, rfl, rfl, hg, hx⟩ := hrel
      have hb2 := hg.out.block hb hhb (by simp)
      by_cases cj : j < hs.length
      · have hdj : decide ((j : Int) < (hs.length : Int)) = true := by simp; omega
        obtain ⟨f, t, hft⟩ : ∃ f t : Int, hs[j]? = some (f, t) := ⟨(hs[j]).1, (hs[j]).2, by rw [List.getElem?_eq_getElem cj]⟩
        have q1 : wr.cell? ⟨hb, j * 2, none⟩ = some (.int .i64 f) := by rw [World.cell?_of_block (w := w) (a := ⟨hb, j * 2, none⟩) hb2]; exact (HH.out j _ hft).1
        have q2 : wr.cell? ⟨hb, j * 2 + 1, none⟩ = some (.int .i64 t) := by rw [World.cell?_of_block (w := w) (a := ⟨hb, j * 2 + 1, none⟩) hb2]; exact (HH.out j _ hft).2
        have NX := loop.out x j f t hft hx.out
        have NX' : Hid _ := NX
        clear NX hft hb2
        cases x
        · have N2 : Hid ((false && !inH (hs.take (j + 1)) k) = false) := by have := NX'.out; rw [this]; rfl
          clear NX'
          go_wp2_with fail
          go_roundw
          case rel => exact ⟨j + 1, false, by omega, rfl, by go_num, grown_trans hg.out (World.grownBy_alloc _ _ none), N2⟩
          case measure => simp [intOf]; omega
        · by_cases c1 : f ≤ k
          · have e1 : decide (f ≤ k) = true := by simp [c1]
            by_cases c2 : k < t
            · have e2 : decide (k < t) = true := by simp [c2]
              have N2 : Hid ((false && !inH (hs.take (j + 1)) k) = false) := by have := NX'.out; rw [this, e1, e2]; rfl
              clear NX'
              go_wp2_with fail
              go_roundw
              case rel => exact ⟨j + 1, false, by omega, rfl, by go_num, grown_trans hg.out (World.grownBy_alloc _ _ none), N2⟩
              case measure => simp [intOf]; omega
            · have e2 : decide (k < t) = false := by simp; omega
              have N2 : Hid ((false && !inH (hs.take (j + 1)) k) = true) := by have := NX'.out; rw [this, e1, e2]; rfl
              clear NX'
              go_wp2_with fail
              go_roundw
              case rel => exact ⟨j + 1, true, by omega, rfl, by go_num, grown_trans hg.out (World.grownBy_alloc _ _ none), N2⟩
              case measure => simp [intOf]; omega
          · have e1 : decide (f ≤ k) = false := by simp; omega
            have N2 : Hid ((false && !inH (hs.take (j + 1)) k) = true) := by have := NX'.out; rw [this, e1]; rfl
            clear NX'
            go_wp2_with fail
            go_roundw
            case rel => exact ⟨j + 1, true, by omega, rfl, by go_num, grown_trans hg.out (World.grownBy_alloc _ _ none), N2⟩
            case measure => simp [intOf]; omega
      · obtain rfl : j = hs.length := by omega
        have e9 : x = z := by
          have h1 := hx.out
          rw [List.take_length] at h1
          rw [← h1, ← HZ.out]; unfold hasH; rw [HF.out]
        subst e9
        clear loop
        go_wp2_with fail
        go_ret
        exact ⟨rfl, below_none hg.out⟩
  · have d0 : decide (0 ≤ k) = false := by simp; omega
    go_enter Try.func14, Try.ntmps14
    go_wp2_with fail
    go_loopw [5, 19] (fun y i wr => ∃ (j : Nat) (x : Bool), j ≤ hs.length ∧ y = .bool x ∧ i = .int .i64 j ∧ Hid (w.grownBy wr none) ∧ Hid ((false && !inH (hs.take j) k) = x)) (fun _ i _ => hs.length - (intOf i).toNat)
    case atStart => exact ⟨0, false, by omega, rfl, rfl, World.grownBy_alloc _ _ none, (by show (false && !inH (hs.take 0) k) = false; simp [inH])⟩
    case round =>
      obtain ⟨j, x, hj, rfl, rfl, hg, hx⟩ := hrel
      have hb2 := hg.out.block hb hhb (by simp)
      by_cases cj : j < hs.length
      · have hdj : decide ((j : Int) < (hs.length : Int)) = true := by simp; omega
        obtain ⟨f, t, hft⟩ : ∃ f t : Int, hs[j]? = some (f, t) := ⟨(hs[j]).1, (hs[j]).2, by rw [List.getElem?_eq_getElem cj]⟩
        have q1 : wr.cell? ⟨hb, j * 2, none⟩ = some (.int .i64 f) := by rw [World.cell?_of_block (w := w) (a := ⟨hb, j * 2, none⟩) hb2]; exact (HH.out j _ hft).1
        have q2 : wr.cell? ⟨hb, j * 2 + 1, none⟩ = some (.int .i64 t) := by rw [World.cell?_of_block (w := w) (a := ⟨hb, j * 2 + 1, none⟩) hb2]; exact (HH.out j _ hft).2
        have NX := loop.out x j f t hft hx.out
        have NX' : Hid _ := NX
        clear NX hft hb2
        cases x
        · have N2 : Hid ((false && !inH (hs.take (j + 1)) k) = false) := by have := NX'.out; rw [this]; rfl
          clear NX'
          go_wp2_with fail
          go_roundw
          case rel => exact ⟨j + 1, false, by omega, rfl, by go_num, grown_trans hg.out (World.grownBy_alloc _ _ none), N2⟩
          case measure => simp [intOf]; omega
        · by_cases c1 : f ≤ k
          · have e1 : decide (f ≤ k) = true := by simp [c1]
            by_cases c2 : k < t
            · have e2 : decide (k < t) = true := by simp [c2]
              have N2 : Hid ((false && !inH (hs.take (j + 1)) k) = false) := by have := NX'.out; rw [this, e1, e2]; rfl
              clear NX'
              go_wp2_with fail
              go_roundw
              case rel => exact ⟨j + 1, false, by omega, rfl, by go_num, grown_trans hg.out (World.grownBy_alloc _ _ none), N2⟩
              case measure => simp [intOf]; omega
            · have e2 : decide (k < t) = false := by simp; omega
              have N2 : Hid ((false && !inH (hs.take (j + 1)) k) = true) := by have := NX'.out; rw [this, e1, e2]; rfl
              clear NX'
              go_wp2_with fail
              go_roundw
              case rel => exact ⟨j + 1, true, by omega, rfl, by go_num, grown_trans hg.out (World.grownBy_alloc _ _ none), N2⟩
              case measure => simp [intOf]; omega
          · have e1 : decide (f ≤ k) = false := by simp; omega
            have N2 : Hid ((false && !inH (hs.take (j + 1)) k) = true) := by have := NX'.out; rw [this, e1]; rfl
            clear NX'
            go_wp2_with fail
            go_roundw
            case rel => exact ⟨j + 1, true, by omega, rfl, by go_num, grown_trans hg.out (World.grownBy_alloc _ _ none), N2⟩
            case measure => simp [intOf]; omega
      · obtain rfl : j = hs.length := by omega
        have e9 : x = z := by
          have h1 := hx.out
          rw [List.take_length] at h1
          rw [← h1, ← HZ.out]; unfold hasH; rw [HF.out]
        subst e9
        clear loop
        go_wp2_with fail
        go_ret
        exact ⟨rfl, below_none hg.out⟩
end Go.Proofs.Ytdfalincdgdlcaa
