import Derived.Test.YtokpmclmdobgeaaGreatKZe
import Derived.Test.YtokpmclmdobgeaaGreatChecked
import Derived.Test.YtokpmclmdobgeaaGreatMathe
import Derived.WalkKit
import Derived.ProofKit
import Derived.OpenShut
import Derived.WalkLawsBesides
import Derived.Deep.Light
import Derived.Laws.Externs
import Derived.Deep.RegionWith
import Derived.Laws.FloatArith
import Derived.Deep.Draws
set_option maxHeartbeats 400000
open Go.ChangeShapes Go.WideShapes Go.ChangeAt Go.RowKit
open FltM
namespace Go.Proofs.YtokpmclmdobgeaaGreat.Tr
theorem and_2047 (x:Int) (h0:0<=x) (h1:x<18446744073709551616):bits .and .u64 (x / 4503599627370496) 2047=x / 4503599627370496 % 2048:=by
 rw [u64_and _ _ (by omega) (by omega) (by omega) (by omega)]
 rw [show (2047:Int).toNat=2047 from rfl,nat_mask11];omega
theorem and_rest (x:Int) (h0:0<=x) (h1:x<18446744073709551616):bits .and .u64 x 4503599627370495=x % 4503599627370496:=by
 rw [u64_and _ _ (by omega) (by omega) (by omega) (by omega)]
 rw [show (4503599627370495:Int).toNat=2 ^ 52-1 from rfl,Nat.and_two_pow_sub_one_eq_mod];omega
theorem ret_int {k:IntKind} {a b:Int} (h:a=b):Ending.returned (.int k a)=.returned (.int k b):=by rw [h]
theorem ret_bool {a b:Bool} (h:a=b):Ending.returned (.bool a)=.returned (.bool b):=by rw [h]
theorem frombits_run (a:Int) (w:World):(callFunc 121 #[.int .u64 a]).run Tryz.prog w=.ok (.value (.float .f64 a.toNat)) w:=by
 rw [run_callFunc_extern Tryz.func121 kc kc kc (e:=Extern.MathFloatBits.float64frombits) kc];rfl
theorem bits_run (a:Nat) (w:World):(callFunc 123 #[.float .f64 a]).run Tryz.prog w=.ok (.value (.int .u64 a)) w:=by
 rw [run_callFunc_extern Tryz.func123 kc kc kc (e:=Extern.MathFloatBits.float64bits) kc];rfl
theorem class_any (x:Int) (h0:0<=x) (h1:x<18446744073709551616) (w:World) :
 Calls Tryz.prog 120 #[.int .u64 x] w fun e w'=>e=.returned (.int .i64 (cls x.toNat))/\w'=w:=by
 have a1:=and_2047 x h0 h1
 have a2:=and_rest x h0 h1
 go_enter Tryz.func120,Tryz.ntmps120
 go_wp2
 all_goals
  go_ret
  go_light
  clear a1 a2
  refine ⟨ret_int ?_,rfl⟩
  unfold cls rg
  simp_all
  omega
theorem cls_bool (x:Nat):(cls x==4)=decide (9218868437227405312<rg x):=by
 rw [Bool.eq_iff_iff,beq_iff_eq,decide_eq_true_iff];exact cls_nan x
theorem cls_yes {x:Nat} (h:9218868437227405312<rg x):(cls x==4)=true:=by rw [cls_bool];exact decide_eq_true h
theorem cls_no {x:Nat} (h: ¬ 9218868437227405312<rg x):(cls x==4)=false:=by rw [cls_bool];exact decide_eq_false h
theorem order_self {x:Nat} (h: ¬ 9218868437227405312<rg x):FloatKind.f64.format.order x x=some .eq:=order_same h h (by omega) (by omega)
theorem isnan_any (x:Nat) (w:World) :
 Calls Tryz.prog 122 #[.float .f64 x] w fun e w'=>e=.returned (.bool (decide (9218868437227405312<rg x)))/\w'=w:=by
 by_cases h:9218868437227405312<rg x
 . have ho:FloatKind.f64.format.order x x=none:=order_none (Or.inl h)
   rw [decide_eq_true h]
   clear h
   go_enter Tryz.func122,Tryz.ntmps122
   go_wp2
   go_ret
   exact ⟨rfl,rfl⟩
 . have ho:=order_self h
   rw [decide_eq_false h]
   clear h
   go_enter Tryz.func122,Tryz.ntmps122
   go_wp2
   go_ret
   exact ⟨rfl,rfl⟩
theorem and_quiet (x:Int) (h0:0<=x) (h1:x<18446744073709551616):(bits .and .u64 x 2251799813685248==0)=decide (x.toNat / 2251799813685248 % 2=0):=by
 rw [u64_and _ _ (by omega) (by omega) (by omega) (by omega)]
 rw [show (2251799813685248:Int).toNat=2 ^ 51 from rfl,nat_bit,Bool.eq_iff_iff,beq_iff_eq,decide_eq_true_iff]
 rw [show (2:Nat) ^ 51=2251799813685248 from rfl]
 omega
theorem signals_any (x:Int) (h0:0<=x) (h1:x<18446744073709551616) (w:World) :
 Calls Tryz.prog 124 #[.int .u64 x] w fun e w'=>e=.returned (.bool (sigs x.toNat))/\w'=w:=by
 have a1:=and_quiet x h0 h1
 by_cases h:9218868437227405312<rg x.toNat
 . have q:=cls_yes h
   have hs0:sigs x.toNat=decide (x.toNat / 2251799813685248 % 2=0):=by unfold sigs;rw [decide_eq_true h];rfl
   have hs:Hid (sigs x.toNat=decide (x.toNat / 2251799813685248 % 2=0)):=hs0
   clear h hs0
   go_enter Tryz.func124,Tryz.ntmps124
   go_wp2_with (go_at_call 120;refine (class_any _ h0 h1 _).mono ?_;rintro e w' ⟨rfl,rfl⟩)
   go_ret
   exact ⟨ret_bool hs.out.symm,rfl⟩
 . have q:=cls_no h
   have hs0:sigs x.toNat=false:=by unfold sigs;rw [decide_eq_false h];rfl
   have hs:Hid (sigs x.toNat=false):=hs0
   clear h hs0
   go_enter Tryz.func124,Tryz.ntmps124
   go_wp2_with (go_at_call 120;refine (class_any _ h0 h1 _).mono ?_;rintro e w' ⟨rfl,rfl⟩)
   go_ret
   exact ⟨ret_bool hs.out.symm,rfl⟩
theorem nan_cut (t:Nat):9218868437227405312<rg (t % 2*2 ^ 63+0x7ff0000000000000+1+t / 2 % (2 ^ 52-1)):=by
 unfold rg
 simp only [Nat.reducePow,Nat.reduceSub]
 have h:t / 2 % 4503599627370495<4503599627370495:=Nat.mod_lt _ (by omega)
 generalize t / 2 % 4503599627370495=m at *
 rcases Nat.mod_two_eq_zero_or_one t with c | c <;> rw [c] <;> omega
theorem run_arith (op:BinOp) (hop:op=.add\/op=.sub\/op=.mul\/op=.quo) (t:TypeId) (x y:Nat) (w:World) :
 ∃ r n,(binOp op t (.float .f64 x) (.float .f64 y)).run Tryz.prog w=.ok (.float .f64 r) (w.drewN n)/\(floatBits op .f64 x y=some r\/(floatBits op .f64 x y=none/\9218868437227405312<rg r)):=by
 cases hf:floatBits op .f64 x y with
 | some r => exact ⟨r, 0, run_float_arith w op t .f64 x y r hf, Or.inl rfl⟩
 | none =>
  refine ⟨(Question.nanBits .f64 x y).cut (w.tape w.drawn (.nanBits .f64 x y)),1,?_,Or.inr ⟨rfl,?_⟩⟩
  . rcases hop with rfl | rfl | rfl | rfl <;> simp only [floatBits] at hf <;> simp [binOp,Op.floatArith,hf,Question.forced] <;> rfl
  . simp only [Question.cut]
    generalize w.tape w.drawn (Question.nanBits FloatKind.f64 x y)=t
    exact nan_cut t
end Go.Proofs.YtokpmclmdobgeaaGreat.Tr
