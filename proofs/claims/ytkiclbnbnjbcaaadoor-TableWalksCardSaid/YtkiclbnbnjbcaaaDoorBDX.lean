import Derived.Test.YtkiclbnbnjbcaaaDoorBDF
import Derived.Laws.BitsAllLaws
namespace Go.Proofs.YtkiclbnbnjbcaaaDoor.Bd
open Go.ChangeShapes Go.WideShapes Go.ChangeAt Go.RowKit Go.Maps
set_option linter.unusedSimpArgs false
theorem xor_one (q:Nat):q ^^^ 1=bud q:=by
 have h1:(q ^^^ 1) / 2=q / 2:=by rw [Nat.xor_div_two];simp
 have h2:(q ^^^ 1) % 2=(q+1) % 2:=by
  have t:=Nat.testBit_xor q 1 0
  rw [Nat.testBit_zero,Nat.testBit_zero,Nat.testBit_zero] at t
  rcases Nat.mod_two_eq_zero_or_one q with c | c <;> rcases Nat.mod_two_eq_zero_or_one (q ^^^ 1) with d | d <;> rw [c,d] at t <;> first | omega | (exfalso;revert t;decide)
 unfold bud
 split <;> omega
theorem xor_blk (q o:Nat):(q*2 ^ o) ^^^ (2 ^ o)=bud q*2 ^ o:=by
 have:(2:Nat) ^ o=1 <<< o:=by rw [Nat.shiftLeft_eq,Nat.one_mul]
 rw [<- xor_one,<- Nat.shiftLeft_eq,<- Nat.shiftLeft_eq,Nat.shiftLeft_xor_distrib,<- this]
theorem not_blk (q o:Nat) (ho:o<=10) (hq:q*2 ^ o<18446744073709551616):(q*2 ^ o) &&& (18446744073709551615-2 ^ o)=q / 2*2 ^ (o+1):=by
 have lo:2 ^ o<2 ^ 64:=Nat.pow_lt_pow_right (by omega) (by omega)
 have e:18446744073709551615-2 ^ o=2 ^ 64-(2 ^ o+1):=by omega
 rw [e]
 apply Nat.eq_of_testBit_eq
 intro j
 rw [Nat.testBit_and,Nat.testBit_two_pow_sub_succ lo,Nat.testBit_mul_two_pow,Nat.testBit_mul_two_pow,Nat.testBit_two_pow]
 by_cases c1:j=o
 . subst c1;simp;intro h;exact absurd h (by omega)
 . by_cases c2:j<o
   . have: ¬ (j>=o):=by omega
     have: ¬ (j>=o+1):=by omega
     simp [*]
   . obtain ⟨d,rfl⟩: ∃ d,j=o+1+d:=⟨j-o-1,by omega⟩
     have e1:q.testBit (o+1+d-o)=(q / 2).testBit d:=by rw [show o+1+d-o=d+1 by omega,Nat.testBit_succ]
     have e2:o+1+d-(o+1)=d:=by omega
     have e3:decide (o=o+1+d)=false:=by simp;omega
     rw [e1,e2,e3]
     by_cases c3:o+1+d<64
     . have g1:decide (o+1+d>=o)=true:=by simp;omega
       have g2:decide (o+1+d>=o+1)=true:=by simp
       simp [c3,g1,g2]
     . have:(q / 2).testBit d=false:=by
        apply Nat.testBit_lt_two_pow
        have p2:q / 2*2 ^ (o+1)<=q*2 ^ o:=by
         rw [Nat.pow_succ,Nat.mul_comm (2 ^ o) 2,<- Nat.mul_assoc]
         exact Nat.mul_le_mul_right _ (by omega)
        have p3:(q / 2)*2 ^ (o+1)<2 ^ d*2 ^ (o+1):=by
         rw [<- Nat.pow_add]
         refine Nat.lt_of_lt_of_le (Nat.lt_of_le_of_lt p2 hq) ?_
         exact Nat.pow_le_pow_right (n:=2) (by decide) (by omega:64<=d+(o+1))
        exact Nat.lt_of_mul_lt_mul_right p3
       simp [this]
theorem i64_xor_nat (a b:Nat) (ha:a<1099511627776) (hb:b<1099511627776):bits .xor .i64 (a:Int) (b:Int)=((a ^^^ b:Nat):Int):=by
 have hx:a ^^^ b<2 ^ 40:=Nat.xor_lt_two_pow (by omega) (by omega)
 show IntKind.i64.wrap ((BitVec.ofInt 64 (a:Int) ^^^ BitVec.ofInt 64 (b:Int)).toNat:Int)=_
 rw [BitVec.toNat_xor,ofInt_u64 a (by omega),ofInt_u64 b (by omega),IntKind.wrap_i64]
 omega
theorem i64_not_nat (a b:Nat) (ha:a<1099511627776) (hb:b<1099511627776):bits .andNot .i64 (a:Int) (b:Int)=((a &&& (18446744073709551615-b):Nat):Int):=by
 have hx:a &&& (18446744073709551615-b)<=a:=Nat.and_le_left
 show IntKind.i64.wrap ((BitVec.ofInt 64 (a:Int) &&& ~~~BitVec.ofInt 64 (b:Int)).toNat:Int)=_
 rw [BitVec.toNat_and,BitVec.toNat_not,ofInt_u64 a (by omega),ofInt_u64 b (by omega),IntKind.wrap_i64]
 have e:2 ^ 64-1-b=18446744073709551615-b:=by omega
 rw [e]
 omega
end Go.Proofs.YtkiclbnbnjbcaaaDoor.Bd
