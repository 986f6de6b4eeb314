import Derived.Test.YtokpmclmdobgeaaGreatTolde
set_option linter.unusedSimpArgs false
set_option linter.unusedVariables false
set_option maxRecDepth 8000
set_option maxHeartbeats 400000
open Go.ChangeShapes Go.WideShapes Go.ChangeAt Go.RowKit
open FltM
namespace Go.Proofs.YtokpmclmdobgeaaGreat.Tr
theorem xor_run (a:Int) (h0:0<=a) (h1:a<18446744073709551616):bits .xor .u64 a 9223372036854775808=((flip a.toNat:Nat):Int):=by
 rw [u64_xor _ _ h0 h1 (by omega) (by omega),show (9223372036854775808:Int).toNat=9223372036854775808 from rfl,xor_top (by omega)]
theorem andNot_run (a:Int) (h0:0<=a) (h1:a<18446744073709551616):bits .andNot .u64 a 9223372036854775808=((rg a.toNat:Nat):Int):=by
 rw [u64_andNot _ _ h0 h1 (by omega) (by omega),show 18446744073709551615-(9223372036854775808:Int).toNat=9223372036854775807 from rfl,and_low]
theorem ret3 {x x' y y' z z':Int} (h1:x=x') (h2:y=y') (h3:z=z') :
 Ending.returned (.tuple #[.int .u64 x,.int .i64 y,.int .i64 z])=.returned (.tuple #[.int .u64 x',.int .i64 y',.int .i64 z']):=by rw [h1,h2,h3]
theorem do_any (op:Int) (a b:Int) (ha0:0<=a) (ha1:a<18446744073709551616) (hb0:0<=b) (hb1:b<18446744073709551616) (w:World) :
 Calls Tryz.prog 109 #[.int .i64 op,.int .u64 a,.int .u64 b] w fun e w'=>e=.returned (.tuple #[.int .u64 (doR op a.toNat b.toNat:Nat),.int .i64 (doT op a.toNat b.toNat),.int .i64 (doE op)])/\ ∃ n,w'=w.drewN n:=by
 by_cases c1:op<1
 . have e1:Hid (doR op a.toNat b.toNat=0/\doT op a.toNat b.toNat=0/\doE op=1):=⟨by unfold doR;rw [if_pos (Or.inl c1)],by unfold doT;rw [if_pos (Or.inl c1)],by unfold doE;rw [if_pos (Or.inl c1)]⟩
   go_enter Tryz.func109,Tryz.ntmps109
   go_wp2
   go_ret3
   exact ⟨ret3 (by rw [e1.out.1];rfl) e1.out.2.1.symm e1.out.2.2.symm,0,rfl⟩
 by_cases c2:8<op
 . have e1:Hid (doR op a.toNat b.toNat=0/\doT op a.toNat b.toNat=0/\doE op=1):=⟨by unfold doR;rw [if_pos (Or.inr c2)],by unfold doT;rw [if_pos (Or.inr (by omega))],by unfold doE;rw [if_pos (Or.inr c2)]⟩
   go_enter Tryz.func109,Tryz.ntmps109
   go_wp2
   go_ret3
   exact ⟨ret3 (by rw [e1.out.1];rfl) e1.out.2.1.symm e1.out.2.2.symm,0,rfl⟩
 have c3: ¬ (op<1\/8<op):=by omega
 by_cases c7:op=7
 . subst c7
   have hx:=xor_run a ha0 ha1
   have e1:Hid (doR 7 a.toNat b.toNat=flip a.toNat/\doT 7 a.toNat b.toNat=0/\doE 7=0):=⟨by unfold doR;rw [if_neg (by omega),if_pos rfl],by unfold doT;rw [if_pos (by omega)],by unfold doE;rw [if_neg (by omega)]⟩
   clear c1 c2 c3
   go_enter Tryz.func109,Tryz.ntmps109
   go_wp2
   go_ret3
   exact ⟨ret3 (by rw [e1.out.1]) e1.out.2.1.symm e1.out.2.2.symm,0,rfl⟩
 by_cases c8:op=8
 . subst c8
   have hx:=andNot_run a ha0 ha1
   have e1:Hid (doR 8 a.toNat b.toNat=rg a.toNat/\doT 8 a.toNat b.toNat=0/\doE 8=0):=⟨by unfold doR;rw [if_neg (by omega),if_neg (by omega),if_pos rfl],by unfold doT;rw [if_pos (by omega)],by unfold doE;rw [if_neg (by omega)]⟩
   clear c1 c2 c3 c7
   go_enter Tryz.func109,Tryz.ntmps109
   go_wp2
   go_ret3
   exact ⟨ret3 (by rw [e1.out.1]) e1.out.2.1.symm e1.out.2.2.symm,0,rfl⟩
 have e1:Hid (doR op a.toNat b.toNat=reck op a.toNat b.toNat/\doT op a.toNat b.toNat=tells op a.toNat b.toNat (reck op a.toNat b.toNat)/\doE op=0) :=
  ⟨by unfold doR;rw [if_neg c3,if_neg c7,if_neg c8],by unfold doT;rw [if_neg (by omega)],by unfold doE;rw [if_neg c3]⟩
 have b7:(op==7)=false:=beq_eq_false_iff_ne.2 c7
 have b8:(op==8)=false:=beq_eq_false_iff_ne.2 c8
 have o1:1<=op:=by omega
 have o6:op<=6:=by omega
 have hlt:reck op a.toNat b.toNat<18446744073709551616:=reck_lt op (by omega) (by omega)
 clear c1 c2 c3 c7 c8
 go_enter Tryz.func109,Tryz.ntmps109
 go_wp2_with (first | (go_at_call 117;refine (reckon_any op a b ha0 ha1 hb0 hb1 _ o1 o6).mono ?_;rintro e w' ⟨rfl,n,rfl⟩) | (go_at_call 118;refine (told_any op a b _ ha0 ha1 hb0 hb1 ?_ ?_ _).mono ?_;omega;omega;rintro e w' ⟨rfl,rfl⟩))
 go_ret3
 exact ⟨ret3 (by rw [e1.out.1]) (by rw [e1.out.2.1]) e1.out.2.2.symm,n,rfl⟩
end Go.Proofs.YtokpmclmdobgeaaGreat.Tr
