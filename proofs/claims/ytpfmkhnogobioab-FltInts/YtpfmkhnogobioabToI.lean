/- The contract of flt.ToInt: a number brought towards nought to a whole one. -/
import Derived.Test.YtpfmkhnogobioabAwake
import Derived.Test.YtpfmkhnogobioabMath4
namespace Go.Proofs.Ytpfmkhnogobioab
open Go.ChangeShapes Go.WideShapes Go.ChangeAt Go.RowKit
open FltM
set_option linter.unusedSimpArgs false
set_option linter.unusedVariables false

theorem arch_run (x : Nat) (w : World) : (callFunc 29 #[.float .f64 x]).run Try.prog w = ((Extern.MathFloor.toIntegral "math.archTrunc" .zero #[.float .f64 x]).run Try.prog w).andThen fun v w' => .ok (.value v) w' := by
  rw [run_callFunc_extern Try.func29 (by kernel_rfl) (by kernel_rfl) (by kernel_rfl) (e := Extern.MathFloor.toIntegral "math.archTrunc" .zero) (by kernel_rfl)]
theorem arch_body (x : Nat) : ∃ q : Question, q.forced = false ∧ Extern.MathFloor.toIntegral "math.archTrunc" .zero #[.float .f64 x] =
    (match FloatKind.f64.decode x with
    | .nan s t =>
      if FloatKind.f64.format.quiet t = t then pure (.float .f64 x) else
        (choose q >>= fun kept => pure (.float .f64 (if kept == 1 then x else FloatKind.f64.encode (.nan s (FloatKind.f64.format.quiet t)))))
    | d => pure (.float .f64 (FloatKind.f64.encode (d.integral .zero)))) := ⟨_, rfl, rfl⟩
theorem arch_num {x f : Nat} (h : ¬ 9218868437227405312 < rg x) (hf : Ieee.double.write ((Ieee.double.read x).integral .zero) = f) (w : World) :
    (callFunc 29 #[.float .f64 x]).run Try.prog w = .ok (.value (.float .f64 f)) w := by
  obtain ⟨q, _, hq⟩ := arch_body x
  rw [arch_run, hq]
  have hd : FloatKind.f64.decode x = Ieee.double.read x := rfl
  rw [hd]
  by_cases c : rg x = 9218868437227405312
  · rw [read_inf c] at *
    simp only [Sem.run_pure, Result.andThen]
    rw [← hf]; rfl
  · rw [read_num (by omega)] at *
    simp only [Sem.run_pure, Result.andThen]
    rw [← hf]; rfl
theorem quiet_nan (s : Bool) {t : Nat} (h : t < 4503599627370496) : 9218868437227405312 < rg (Ieee.double.write (.nan s (Ieee.double.quiet t))) := by
  unfold Ieee.Format.quiet
  simp only [Ieee.Format.write, inf_eq, binade_eq, fb_eq]
  have h1 : t ||| 2 ^ (52 - 1) < 2 ^ 52 := Nat.or_lt_two_pow (by simpa using h) (by decide)
  have h2 : 2 ^ (52 - 1) ≤ t ||| 2 ^ (52 - 1) := Nat.right_le_or
  rw [show (2 : Nat) ^ 52 = 4503599627370496 from rfl] at h1
  rw [show (2 : Nat) ^ (52 - 1) = 2251799813685248 from rfl] at *
  rw [Nat.mod_eq_of_lt h1, rg_word _ (by omega)]
  omega
theorem run_ask {q : Question} (hfo : q.forced = false) (g : Nat → Nat) (w : World) :
    ((choose q >>= fun k => pure (Value.float .f64 (g k))).run Try.prog w).andThen (fun v w' => Result.ok (Next.value v) w') = .ok (.value (.float .f64 (g (q.cut (w.tape w.drawn q))))) w.drew := by
  simp [hfo]
theorem arch_nan0 {x t : Nat} {s : Bool} (hr : FloatKind.f64.decode x = .nan s t) (h : 9218868437227405312 < rg x)
    (hy : 9218868437227405312 < rg (Ieee.double.write (.nan s (Ieee.double.quiet t)))) (w : World) :
    ∃ f n, 9218868437227405312 < rg f ∧ (callFunc 29 #[.float .f64 x]).run Try.prog w = .ok (.value (.float .f64 f)) (w.drewN n) := by
  obtain ⟨q, hfo, hq⟩ := arch_body x
  have e1 : ∀ d, FloatKind.f64.encode d = Ieee.double.write d := fun _ => rfl
  have e2 : FloatKind.f64.format = Ieee.double := rfl
  rw [arch_run, hq, hr]
  simp only [e1, e2]
  generalize Ieee.double.write (.nan s (Ieee.double.quiet t)) = y at *
  by_cases c : Ieee.double.quiet t = t
  · refine ⟨x, 0, h, ?_⟩
    simp only [c, if_true, Sem.run_pure, Result.andThen]; rfl
  · simp only [c, if_false]
    refine ⟨if q.cut (w.tape w.drawn q) == 1 then x else y, 1, ?_, ?_⟩
    · split
      · exact h
      · exact hy
    · exact run_ask hfo (fun k => if k == 1 then x else y) w
theorem arch_nan {x : Nat} (h : 9218868437227405312 < rg x) (w : World) :
    ∃ f n, 9218868437227405312 < rg f ∧ (callFunc 29 #[.float .f64 x]).run Try.prog w = .ok (.value (.float .f64 f)) (w.drewN n) :=
  arch_nan0 (read_nan h) h (quiet_nan (sg x) (by have := rg_lt x; omega)) w

theorem order_word (s : Bool) {t : Nat} (ht : t ≤ 9218868437227405312) : ¬ 9218868437227405312 < rg (Ieee.double.word s t) := by
  rw [rg_word s (by omega)]; omega

theorem ret2i {x x' y y' : Int} (h1 : x = x') (h2 : y = y') : Ending.returned (.tuple #[.int .i64 x, .int .i64 y]) = .returned (.tuple #[.int .i64 x', .int .i64 y']) := by rw [h1, h2]

set_option maxHeartbeats 400000 in
theorem trunc_num {x f : Nat} (h : ¬ 9218868437227405312 < rg x) (hf : Ieee.double.write ((Ieee.double.read x).integral .zero) = f) (w : World) :
    Calls Try.prog 26 #[.float .f64 x] w fun e w' => e = .returned (.float .f64 f) ∧ w' = w := by
  have ha := fun w => arch_num h hf w
  clear hf h
  go_enter Try.func26, Try.ntmps26
  go_wp2
  go_ret
  exact ⟨rfl, rfl⟩
set_option maxHeartbeats 400000 in
theorem trunc_nan {x : Nat} (h : 9218868437227405312 < rg x) (w : World) :
    Calls Try.prog 26 #[.float .f64 x] w fun e w' => ∃ f n, 9218868437227405312 < rg f ∧ e = .returned (.float .f64 f) ∧ w' = w.drewN n := by
  obtain ⟨f, n, hf, ha⟩ := arch_nan h w
  clear h
  go_enter Try.func26, Try.ntmps26
  go_wp2
  go_ret
  exact ⟨f, n, hf, rfl, rfl⟩

set_option maxHeartbeats 400000 in
theorem toint_nan (x : Int) (h : 9218868437227405312 < rg x.toNat) (w : World) :
    Calls Try.prog 16 #[.int .u64 x] w fun e w' => e = .returned (.tuple #[.int .i64 0, .int .i64 1]) ∧ ∃ n, w' = w.drewN n := by
  have hfb := frombits_run
  go_enter Try.func16, Try.ntmps16
  go_wp2_with fail
  refine (trunc_nan h _).mono ?_
  rintro e w' ⟨f, n, hf, rfl, rfl⟩
  have o1 : FloatKind.f64.format.order f 14114281232179134464 = none := order_none (Or.inl hf)
  clear hf
  go_wp2_with fail
  go_ret2
  exact ⟨rfl, n, rfl⟩
end Go.Proofs.Ytpfmkhnogobioab
