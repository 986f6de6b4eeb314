import Derived.Test.YtgbdnnkkcpkhdaaGreatDoorKZc
import Derived.WalkKit
import Derived.Laws.BitsAll
import Derived.Test.YtgbdnnkkcpkhdaaGreatDoorChecked
import Derived.ProofKit
import Derived.Handy
import Derived.Lib.SmallJoins
import Derived.Deep.Light
import Derived.StillTailTactics
import Derived.Test.YtgbdnnkkcpkhdaaGreatDoorRows
import Derived.LaidMore
import Derived.Lib.LaidTab
set_option linter.unusedSimpArgs false
set_option linter.unusedVariables false
set_option maxRecDepth 8000
set_option maxHeartbeats 1000000
namespace Go.Proofs.YtgbdnnkkcpkhdaaGreatDoor
open Go.RowKit
theorem nat_mask (x k n:Nat):x &&& ((2 ^ n-1)*2 ^ k)=(x / 2 ^ k % 2 ^ n)*2 ^ k:=by
 apply Nat.eq_of_testBit_eq
 intro i
 rw [Nat.testBit_and,Nat.testBit_mul_two_pow,Nat.testBit_mul_two_pow,Nat.testBit_mod_two_pow,Nat.testBit_two_pow_sub_one,Nat.testBit_div_two_pow]
 by_cases h:k<=i
 . simp [h,show i-k+k=i by omega,Bool.and_comm]
 . simp [h]
theorem nat_bit (h l k:Nat) (hl:l<2 ^ k):(h*2 ^ (k+1)+l) ||| 2 ^ k=h*2 ^ (k+1)+l+2 ^ k:=by
 have e1:h*2 ^ (k+1)+l=2 ^ (k+1)*h ||| l:=by
  rw [Nat.mul_comm,Nat.two_pow_add_eq_or_of_lt (by rw [Nat.pow_succ];omega)]
 have e2:h*2 ^ (k+1)+l+2 ^ k=2 ^ (k+1)*h ||| (2 ^ k*1 ||| l):=by
  rw [<- Nat.two_pow_add_eq_or_of_lt hl,<- Nat.two_pow_add_eq_or_of_lt (by rw [Nat.pow_succ];omega),Nat.mul_comm];omega
 rw [e2,e1,Nat.mul_one,Nat.or_assoc,Nat.or_comm l]
theorem and_mask (x:Int) (x0:0<=x) (x1:x<18446744073709551616) (k n:Nat) (m:Int) (hm:m=((2 ^ n-1)*2 ^ k:Nat)) (m1:m<18446744073709551616) :
 bits .and .u64 x m=x / 2 ^ k % 2 ^ n*2 ^ k:=by
 subst hm
 rw [u64_and _ _ x0 x1 (by omega) m1,Int.toNat_natCast,nat_mask]
 rw [Int.natCast_mul,Int.natCast_emod,Int.natCast_ediv,Int.toNat_of_nonneg x0]
 simp only [Int.natCast_pow]
 rfl
theorem or_bit (X:Int) (k:Nat) (h l:Int) (h0:0<=h) (l0:0<=l) (l1:l<2 ^ k) (hX:X=h*2 ^ (k+1)+l) (b:Int) (hb:b=2 ^ k) (b1:b<18446744073709551616) (x1:X<18446744073709551616):bits .or .u64 X b=X+b:=by
 obtain ⟨hn,rfl⟩:=Int.eq_ofNat_of_zero_le h0
 obtain ⟨ln,rfl⟩:=Int.eq_ofNat_of_zero_le l0
 have e:X=((hn*2 ^ (k+1)+ln:Nat):Int):=by rw [hX,Int.natCast_add,Int.natCast_mul,Int.natCast_pow];rfl
 have eb:b=((2 ^ k:Nat):Int):=by rw [hb,Int.natCast_pow];rfl
 have l2:ln<2 ^ k:=by rw [<- hb,eb] at l1;omega
 rw [u64_or _ _ (by omega) x1 (by omega) b1,e,eb,Int.toNat_natCast,Int.toNat_natCast,nat_bit _ _ _ l2]
 omega
def fl (b:Bool) (v:Int):Int:=if b then v else 0
theorem fl_false (v:Int):fl false v=0:=rfl
def packV (p w u a d l g n:Bool) (f:Int):Int:=f*4096+fl p 1+fl w 2+fl u 4+fl a 32+fl d 64+fl l 128+fl g 256+fl n 9223372036854775808
def bt (x:Int):Bool:=x % 2==1
theorem and_one (x:Int) (x0:0<=x) (x1:x<18446744073709551616):(bits .and .u64 x 1 != 0)=bt x:=by
 rw [and_mask x x0 x1 0 1 1 (by decide) (by omega)]
 unfold bt
 rcases (show x % 2=0\/x % 2=1 by omega) with h | h <;> simp [h]
end Go.Proofs.YtgbdnnkkcpkhdaaGreatDoor
namespace Go.Proofs.YtgbdnnkkcpkhdaaGreatDoor
open Go.ChangeShapes Go.WideShapes Go.ChangeAt Go.RowKit
def ext (x:Int):Int:=if x % 281474976710656<140737488355328 then x % 281474976710656 else x % 281474976710656+18446462598732840960
theorem extend_any (x:Int) (x0:0<=x) (x1:x<18446744073709551616) (w:World) :
 Calls Tryz.prog 97 #[.int .u64 x] w fun e w'=>e=.returned (.int .u64 (ext x))/\w'=w:=by
 have e:IntKind.u64.wrap (wrap64 (IntKind.u64.wrap (x*65536)) / 65536)=ext x:=by
  unfold ext;simp only [wrap64,IntKind.wrap_u64,IntKind.wrap_i64];split <;> omega
 have E:Hid (IntKind.u64.wrap (wrap64 (IntKind.u64.wrap (x*65536)) / 65536)=ext x):=e
 clear e
 go_enter Tryz.func97,Tryz.ntmps97
 go_wp2
 go_ret
 refine ⟨?_,rfl⟩
 rw [<- E.out];rfl
theorem canonical_any (x:Int) (x0:0<=x) (x1:x<18446744073709551616) (w:World) :
 Calls Tryz.prog 61 #[.int .u64 x] w fun e w'=>e=.returned (.bool (ext x==x))/\w'=w:=by
 obtain ⟨y,hy⟩: ∃ y,ext x=y:=⟨_,rfl⟩
 have E:Hid (∀ w:World,Calls Tryz.prog 97 #[.int .u64 x] w fun e w'=>e=.returned (.int .u64 y)/\w'=w):=fun w=>by rw [<- hy];exact extend_any x x0 x1 w
 rw [hy]
 clear hy
 go_enter Tryz.func61,Tryz.ntmps61
 go_wp2_with fail
 refine (E.out _).mono ?_
 rintro e w1 ⟨rfl,rfl⟩
 go_wp2
 go_ret
 exact ⟨rfl,rfl⟩
theorem split_any (x:Int) (x0:0<=x) (x1:x<18446744073709551616) (w:World) :
 Calls Tryz.prog 63 #[.int .u64 x] w (re (.tuple #[.agg (sc (x / 4096 / 512 / 512 / 512 % 512) (x / 4096 / 512 / 512 % 512) (x / 4096 / 512 % 512) (x / 4096 % 512)),.int .i64 (x % 4096)]) w):=by
 go_enter Tryz.func63,Tryz.ntmps63
 go_wp2
 go_rounds 5
 go_returns
 exact ⟨rfl,Go.Joins.below_alloc2 _ _ _⟩
theorem idx4_0 (a b c d:Value) (W:World):(Instr.index 156 (.agg #[a,b,c,d]) (.int .i64 0)).run Tryz.prog W=.ok a W:=ka
theorem idx4_1 (a b c d:Value) (W:World):(Instr.index 156 (.agg #[a,b,c,d]) (.int .i64 1)).run Tryz.prog W=.ok b W:=ka
theorem idx4_2 (a b c d:Value) (W:World):(Instr.index 156 (.agg #[a,b,c,d]) (.int .i64 2)).run Tryz.prog W=.ok c W:=ka
theorem idx4_3 (a b c d:Value) (W:World):(Instr.index 156 (.agg #[a,b,c,d]) (.int .i64 3)).run Tryz.prog W=.ok d W:=ka
theorem or_low (X p:Int) (k:Nat) (m:Int) (hm:m=2 ^ k) (x0:0<=X) (p0:0<=p) (p1:p<m) (h:X*m+m<=18446744073709551616):bits .or .u64 (IntKind.u64.wrap (X*m)) p=X*m+p:=by
 have hm0:0<=X*m:=Int.mul_nonneg x0 (by omega)
 rw [IntKind.wrap_u64,Int.emod_eq_of_lt hm0 (by omega)]
 rw [u64_or _ _ hm0 (by omega) p0 (by omega)]
 obtain ⟨Xn,rfl⟩:=Int.eq_ofNat_of_zero_le x0
 obtain ⟨pn,rfl⟩:=Int.eq_ofNat_of_zero_le p0
 have e:(Xn:Int)*m=((2 ^ k*Xn:Nat):Int):=by rw [hm,Int.natCast_mul,Int.natCast_pow,Int.mul_comm];rfl
 have hp:pn<2 ^ k:=by
  have:m=((2 ^ k:Nat):Int):=by rw [hm,Int.natCast_pow];rfl
  omega
 rw [e,Int.toNat_natCast,Int.toNat_natCast,<- Nat.two_pow_add_eq_or_of_lt hp]
 omega
theorem flags_any (b:Nat) (w:World) :
 Calls Tryz.prog 90 #[.pointer (some ⟨b,0,none⟩)] w fun e w'=>e=.returned (.agg #[.pointer (some ⟨b,0,none⟩),.pointer (some ⟨b,1,none⟩),.pointer (some ⟨b,2,none⟩),.pointer (some ⟨b,3,none⟩),.pointer (some ⟨b,4,none⟩),.pointer (some ⟨b,5,none⟩),.pointer (some ⟨b,6,none⟩),.pointer (some ⟨b,7,none⟩)])/\ ∃ o,w'=(w.alloc o).drew:=by
 go_enter Tryz.func90,Tryz.ntmps90
 go_wp2_with fail
 go_still_tail 25,ka
 change wpList _ _ _ _ _ (World.drew _)
 go_wp2
 go_returns
 exact ⟨rfl,_,rfl⟩
theorem idx8_0 (a b c d e f g h:Value) (W:World):(Instr.index 205 (.agg #[a,b,c,d,e,f,g,h]) (.int .i64 0)).run Tryz.prog W=.ok a W:=ka
theorem idx8_1 (a b c d e f g h:Value) (W:World):(Instr.index 205 (.agg #[a,b,c,d,e,f,g,h]) (.int .i64 1)).run Tryz.prog W=.ok b W:=ka
theorem idx8_2 (a b c d e f g h:Value) (W:World):(Instr.index 205 (.agg #[a,b,c,d,e,f,g,h]) (.int .i64 2)).run Tryz.prog W=.ok c W:=ka
theorem idx8_3 (a b c d e f g h:Value) (W:World):(Instr.index 205 (.agg #[a,b,c,d,e,f,g,h]) (.int .i64 3)).run Tryz.prog W=.ok d W:=ka
theorem idx8_4 (a b c d e f g h:Value) (W:World):(Instr.index 205 (.agg #[a,b,c,d,e,f,g,h]) (.int .i64 4)).run Tryz.prog W=.ok e W:=ka
theorem idx8_5 (a b c d e f g h:Value) (W:World):(Instr.index 205 (.agg #[a,b,c,d,e,f,g,h]) (.int .i64 5)).run Tryz.prog W=.ok f W:=ka
theorem idx8_6 (a b c d e f g h:Value) (W:World):(Instr.index 205 (.agg #[a,b,c,d,e,f,g,h]) (.int .i64 6)).run Tryz.prog W=.ok g W:=ka
theorem idx8_7 (a b c d e f g h:Value) (W:World):(Instr.index 205 (.agg #[a,b,c,d,e,f,g,h]) (.int .i64 7)).run Tryz.prog W=.ok h W:=ka
theorem below_drew' (B:Nat) (w:World):Below B w w.drew:=⟨rfl,rfl,rfl,Nat.le_refl _,fun _ _=>rfl⟩
def Tab (w:World):Prop:=0<w.heap.size/\w.cell? ⟨0,0,none⟩=some (.int .i64 0)/\w.cell? ⟨0,1,none⟩=some (.int .i64 1)/\w.cell? ⟨0,2,none⟩=some (.int .i64 2)/\w.cell? ⟨0,3,none⟩=some (.int .i64 5)/\w.cell? ⟨0,4,none⟩=some (.int .i64 6)/\w.cell? ⟨0,5,none⟩=some (.int .i64 7)/\w.cell? ⟨0,6,none⟩=some (.int .i64 8)/\w.cell? ⟨0,7,none⟩=some (.int .i64 63)
theorem Tab.below {w w':World} {B:Nat} (h:Tab w) (hb:Below B w w') (hB:0<B):Tab w':=by
 have e:w'.heap[0]? =w.heap[0]? :=hb.block 0 hB
 have hc: ∀ i,w'.cell? ⟨0,i,none⟩=w.cell? ⟨0,i,none⟩:=fun i=>by simp [World.cell?,e]
 refine ⟨nla h.1 hb.size,?_⟩
 simp only [hc]
 exact h.2
theorem Tab.keep {w w':World} (h:Tab w) (hb:bc w w'):Tab w':=h.below hb h.1
def unp (x:Int):Value:=.agg (sd (bt (x)) (bt (x / 2)) (bt (x / 4)) (bt (x / 32)) (bt (x / 64)) (bt (x / 128)) (bt (x / 256)) (bt (x / 9223372036854775808)) (x / 4096 % 1048576))
theorem unpack_any (x:Int) (x0:0<=x) (x1:x<18446744073709551616) (w:World) (ht:Tab w) :
 Calls Tryz.prog 112 #[.int .u64 x] w (re (unp x) w):=by
 obtain ⟨hs,c0,c1,c2,c3,c4,c5,c6,c7⟩:=ht
 have F:Hid (∀ (b:Nat) (w:World),Calls Tryz.prog 90 #[.pointer (some ⟨b,0,none⟩)] w fun e w'=>e=.returned (.agg #[.pointer (some ⟨b,0,none⟩),.pointer (some ⟨b,1,none⟩),.pointer (some ⟨b,2,none⟩),.pointer (some ⟨b,3,none⟩),.pointer (some ⟨b,4,none⟩),.pointer (some ⟨b,5,none⟩),.pointer (some ⟨b,6,none⟩),.pointer (some ⟨b,7,none⟩)])/\ ∃ o,w'=(w.alloc o).drew):=flags_any
 have A0:Hid _:=and_one (x) (by omega) (by omega)
 have A1:Hid _:=and_one (x / 2) (by omega) (by omega)
 have A2:Hid _:=and_one (x / 4) (by omega) (by omega)
 have A5:Hid _:=and_one (x / 32) (by omega) (by omega)
 have A6:Hid _:=and_one (x / 64) (by omega) (by omega)
 have A7:Hid _:=and_one (x / 128) (by omega) (by omega)
 have A8:Hid _:=and_one (x / 256) (by omega) (by omega)
 have A63:Hid _:=and_one (x / 9223372036854775808) (by omega) (by omega)
 have i0:=idx8_0
 have i1:=idx8_1
 have i2:=idx8_2
 have i3:=idx8_3
 have i4:=idx8_4
 have i5:=idx8_5
 have i6:=idx8_6
 have i7:=idx8_7
 go_enter Tryz.func112,Tryz.ntmps112
 go_wp2_with fail
 refine (F.out _ _).mono ?_
 rintro e w1 ⟨rfl,o,rfl⟩
 go_wp2_with fail
 refine wp_loop_rounds 9 ?_
 rw [rounds_succ];go_wp2_with fail
 rw [rounds_succ];go_wp2_with fail
 rw [rounds_succ];go_wp2_with fail
 rw [rounds_succ];go_wp2_with fail
 rw [rounds_succ];go_wp2_with fail
 rw [rounds_succ];go_wp2_with fail
 rw [rounds_succ];go_wp2_with fail
 rw [rounds_succ];go_wp2_with fail
 rw [rounds_succ];go_wp2_with fail
 go_returns
 refine ⟨?_,?_⟩
 . unfold unp
   rw [A0.out,A1.out,A2.out,A5.out,A6.out,A7.out,A8.out,A63.out]
 . exact (Go.Joins.below_alloc3 _ _ _ _).trans (below_drew' _ _)
theorem fl_bd (b:Bool) (v:Int) (h:0<=v):0<=fl b v/\fl b v<=v:=by cases b <;> simp [fl] <;> omega
theorem or_0 (f:Int) (f0:0<=f) (f1:f<1048576):bits .or .u64 (f*4096) 1=f*4096+1:=by
 exact or_bit _ 0 (f*2048) (0) (by omega) (by omega) (by omega) (by omega) _ (by decide) (by omega) (by omega)
theorem or_1 (p:Bool) (f:Int) (f0:0<=f) (f1:f<1048576):bits .or .u64 (f*4096+fl p 1) 2=f*4096+fl p 1+2:=by
 have h0:=fl_bd p 1 (by omega)
 exact or_bit _ 1 (f*1024) (fl p 1) (by omega) (by omega) (by omega) (by omega) _ (by decide) (by omega) (by omega)
theorem or_2 (p r:Bool) (f:Int) (f0:0<=f) (f1:f<1048576):bits .or .u64 (f*4096+fl p 1+fl r 2) 4=f*4096+fl p 1+fl r 2+4:=by
 have h0:=fl_bd p 1 (by omega)
 have h1:=fl_bd r 2 (by omega)
 exact or_bit _ 2 (f*512) (fl p 1+fl r 2) (by omega) (by omega) (by omega) (by omega) _ (by decide) (by omega) (by omega)
theorem or_3 (p r u:Bool) (f:Int) (f0:0<=f) (f1:f<1048576):bits .or .u64 (f*4096+fl p 1+fl r 2+fl u 4) 32=f*4096+fl p 1+fl r 2+fl u 4+32:=by
 have h0:=fl_bd p 1 (by omega)
 have h1:=fl_bd r 2 (by omega)
 have h2:=fl_bd u 4 (by omega)
 exact or_bit _ 5 (f*64) (fl p 1+fl r 2+fl u 4) (by omega) (by omega) (by omega) (by omega) _ (by decide) (by omega) (by omega)
theorem or_4 (p r u a:Bool) (f:Int) (f0:0<=f) (f1:f<1048576):bits .or .u64 (f*4096+fl p 1+fl r 2+fl u 4+fl a 32) 64=f*4096+fl p 1+fl r 2+fl u 4+fl a 32+64:=by
 have h0:=fl_bd p 1 (by omega)
 have h1:=fl_bd r 2 (by omega)
 have h2:=fl_bd u 4 (by omega)
 have h3:=fl_bd a 32 (by omega)
 exact or_bit _ 6 (f*32) (fl p 1+fl r 2+fl u 4+fl a 32) (by omega) (by omega) (by omega) (by omega) _ (by decide) (by omega) (by omega)
theorem or_5 (p r u a d:Bool) (f:Int) (f0:0<=f) (f1:f<1048576):bits .or .u64 (f*4096+fl p 1+fl r 2+fl u 4+fl a 32+fl d 64) 128=f*4096+fl p 1+fl r 2+fl u 4+fl a 32+fl d 64+128:=by
 have h0:=fl_bd p 1 (by omega)
 have h1:=fl_bd r 2 (by omega)
 have h2:=fl_bd u 4 (by omega)
 have h3:=fl_bd a 32 (by omega)
 have h4:=fl_bd d 64 (by omega)
 exact or_bit _ 7 (f*16) (fl p 1+fl r 2+fl u 4+fl a 32+fl d 64) (by omega) (by omega) (by omega) (by omega) _ (by decide) (by omega) (by omega)
theorem or_6 (p r u a d l:Bool) (f:Int) (f0:0<=f) (f1:f<1048576):bits .or .u64 (f*4096+fl p 1+fl r 2+fl u 4+fl a 32+fl d 64+fl l 128) 256=f*4096+fl p 1+fl r 2+fl u 4+fl a 32+fl d 64+fl l 128+256:=by
 have h0:=fl_bd p 1 (by omega)
 have h1:=fl_bd r 2 (by omega)
 have h2:=fl_bd u 4 (by omega)
 have h3:=fl_bd a 32 (by omega)
 have h4:=fl_bd d 64 (by omega)
 have h5:=fl_bd l 128 (by omega)
 exact or_bit _ 8 (f*8) (fl p 1+fl r 2+fl u 4+fl a 32+fl d 64+fl l 128) (by omega) (by omega) (by omega) (by omega) _ (by decide) (by omega) (by omega)
theorem or_7 (p r u a d l g:Bool) (f:Int) (f0:0<=f) (f1:f<1048576):bits .or .u64 (f*4096+fl p 1+fl r 2+fl u 4+fl a 32+fl d 64+fl l 128+fl g 256) 9223372036854775808=f*4096+fl p 1+fl r 2+fl u 4+fl a 32+fl d 64+fl l 128+fl g 256+9223372036854775808:=by
 have h0:=fl_bd p 1 (by omega)
 have h1:=fl_bd r 2 (by omega)
 have h2:=fl_bd u 4 (by omega)
 have h3:=fl_bd a 32 (by omega)
 have h4:=fl_bd d 64 (by omega)
 have h5:=fl_bd l 128 (by omega)
 have h6:=fl_bd g 256 (by omega)
 exact or_bit _ 63 0 (f*4096+fl p 1+fl r 2+fl u 4+fl a 32+fl d 64+fl l 128+fl g 256) (by omega) (by omega) (by omega) (by omega) _ (by decide) (by omega) (by omega)
theorem pack_walk (p r u a d l g n:Bool) (f:Int) (f0:0<=f) (f1:f<1048576) (X0 X1 X2 X3 X4 X5 X6 X7 X8:Int) (e0:Hid (f*4096=X0))
 (t0:Hid (p=true->bits .or .u64 X0 1=X1)) (n0:Hid (p=false->X0=X1)) (t1:Hid (r=true->bits .or .u64 X1 2=X2)) (n1:Hid (r=false->X1=X2)) (t2:Hid (u=true->bits .or .u64 X2 4=X3)) (n2:Hid (u=false->X2=X3)) (t3:Hid (a=true->bits .or .u64 X3 32=X4)) (n3:Hid (a=false->X3=X4)) (t4:Hid (d=true->bits .or .u64 X4 64=X5)) (n4:Hid (d=false->X4=X5)) (t5:Hid (l=true->bits .or .u64 X5 128=X6)) (n5:Hid (l=false->X5=X6)) (t6:Hid (g=true->bits .or .u64 X6 256=X7)) (n6:Hid (g=false->X6=X7)) (t7:Hid (n=true->bits .or .u64 X7 9223372036854775808=X8)) (n7:Hid (n=false->X7=X8)) (w:World) (ht:Tab w) :
 Calls Tryz.prog 50 #[.agg (sd p r u a d l g n f)] w (re (.tuple #[.int .u64 X8,.int .i64 0]) w):=by
 obtain ⟨hs,c0,c1,c2,c3,c4,c5,c6,c7⟩:=ht
 have F:Hid (∀ (b:Nat) (w:World),Calls Tryz.prog 90 #[.pointer (some ⟨b,0,none⟩)] w fun e w'=>e=.returned (.agg #[.pointer (some ⟨b,0,none⟩),.pointer (some ⟨b,1,none⟩),.pointer (some ⟨b,2,none⟩),.pointer (some ⟨b,3,none⟩),.pointer (some ⟨b,4,none⟩),.pointer (some ⟨b,5,none⟩),.pointer (some ⟨b,6,none⟩),.pointer (some ⟨b,7,none⟩)])/\ ∃ o,w'=(w.alloc o).drew):=flags_any
 have i0:=idx8_0
 have i1:=idx8_1
 have i2:=idx8_2
 have i3:=idx8_3
 have i4:=idx8_4
 have i5:=idx8_5
 have i6:=idx8_6
 have i7:=idx8_7
 go_enter Tryz.func50,Tryz.ntmps50
 go_wp2_with fail
 refine (F.out _ _).mono ?_
 rintro e w1 ⟨rfl,o,rfl⟩
 go_wp2_with fail
 go_loop [4,20] (fun x i=>(i=.int .i64 0/\x=.int .u64 X0)\/(i=.int .i64 1/\x=.int .u64 X1)\/(i=.int .i64 2/\x=.int .u64 X2)\/(i=.int .i64 3/\x=.int .u64 X3)\/(i=.int .i64 4/\x=.int .u64 X4)\/(i=.int .i64 5/\x=.int .u64 X5)\/(i=.int .i64 6/\x=.int .u64 X6)\/(i=.int .i64 7/\x=.int .u64 X7)\/(i=.int .i64 8/\x=.int .u64 X8)) (fun _ i=>(8-intOf i).toNat)
 case atStart=>exact Or.inl ⟨rfl,by rw [<- e0.out]⟩
 case round =>
  rcases hrel with ⟨rfl,rfl⟩ | ⟨rfl,rfl⟩ | ⟨rfl,rfl⟩ | ⟨rfl,rfl⟩ | ⟨rfl,rfl⟩ | ⟨rfl,rfl⟩ | ⟨rfl,rfl⟩ | ⟨rfl,rfl⟩ | ⟨rfl,rfl⟩
  . cases p
    . have q:X0=X1:=n0.out rfl
      subst q
      go_wp2_with fail
      go_round
      case rel=>exact Or.inr (Or.inl ⟨rfl,rfl⟩)
      case measure=>simp [intOf]
    . have q:bits .or .u64 X0 1=X1:=t0.out rfl
      go_wp2_with fail
      go_round
      case rel=>exact Or.inr (Or.inl ⟨rfl,rfl⟩)
      case measure=>simp [intOf]
  . cases r
    . have q:X1=X2:=n1.out rfl
      subst q
      go_wp2_with fail
      go_round
      case rel=>exact Or.inr (Or.inr (Or.inl ⟨rfl,rfl⟩))
      case measure=>simp [intOf]
    . have q:bits .or .u64 X1 2=X2:=t1.out rfl
      go_wp2_with fail
      go_round
      case rel=>exact Or.inr (Or.inr (Or.inl ⟨rfl,rfl⟩))
      case measure=>simp [intOf]
  . cases u
    . have q:X2=X3:=n2.out rfl
      subst q
      go_wp2_with fail
      go_round
      case rel=>exact Or.inr (Or.inr (Or.inr (Or.inl ⟨rfl,rfl⟩)))
      case measure=>simp [intOf]
    . have q:bits .or .u64 X2 4=X3:=t2.out rfl
      go_wp2_with fail
      go_round
      case rel=>exact Or.inr (Or.inr (Or.inr (Or.inl ⟨rfl,rfl⟩)))
      case measure=>simp [intOf]
  . cases a
    . have q:X3=X4:=n3.out rfl
      subst q
      go_wp2_with fail
      go_round
      case rel=>exact Or.inr (Or.inr (Or.inr (Or.inr (Or.inl ⟨rfl,rfl⟩))))
      case measure=>simp [intOf]
    . have q:bits .or .u64 X3 32=X4:=t3.out rfl
      go_wp2_with fail
      go_round
      case rel=>exact Or.inr (Or.inr (Or.inr (Or.inr (Or.inl ⟨rfl,rfl⟩))))
      case measure=>simp [intOf]
  . cases d
    . have q:X4=X5:=n4.out rfl
      subst q
      go_wp2_with fail
      go_round
      case rel=>exact Or.inr (Or.inr (Or.inr (Or.inr (Or.inr (Or.inl ⟨rfl,rfl⟩)))))
      case measure=>simp [intOf]
    . have q:bits .or .u64 X4 64=X5:=t4.out rfl
      go_wp2_with fail
      go_round
      case rel=>exact Or.inr (Or.inr (Or.inr (Or.inr (Or.inr (Or.inl ⟨rfl,rfl⟩)))))
      case measure=>simp [intOf]
  . cases l
    . have q:X5=X6:=n5.out rfl
      subst q
      go_wp2_with fail
      go_round
      case rel=>exact Or.inr (Or.inr (Or.inr (Or.inr (Or.inr (Or.inr (Or.inl ⟨rfl,rfl⟩))))))
      case measure=>simp [intOf]
    . have q:bits .or .u64 X5 128=X6:=t5.out rfl
      go_wp2_with fail
      go_round
      case rel=>exact Or.inr (Or.inr (Or.inr (Or.inr (Or.inr (Or.inr (Or.inl ⟨rfl,rfl⟩))))))
      case measure=>simp [intOf]
  . cases g
    . have q:X6=X7:=n6.out rfl
      subst q
      go_wp2_with fail
      go_round
      case rel=>exact Or.inr (Or.inr (Or.inr (Or.inr (Or.inr (Or.inr (Or.inr (Or.inl ⟨rfl,rfl⟩)))))))
      case measure=>simp [intOf]
    . have q:bits .or .u64 X6 256=X7:=t6.out rfl
      go_wp2_with fail
      go_round
      case rel=>exact Or.inr (Or.inr (Or.inr (Or.inr (Or.inr (Or.inr (Or.inr (Or.inl ⟨rfl,rfl⟩)))))))
      case measure=>simp [intOf]
  . cases n
    . have q:X7=X8:=n7.out rfl
      subst q
      go_wp2_with fail
      go_round
      case rel=>exact Or.inr (Or.inr (Or.inr (Or.inr (Or.inr (Or.inr (Or.inr (Or.inr (⟨rfl,rfl⟩))))))))
      case measure=>simp [intOf]
    . have q:bits .or .u64 X7 9223372036854775808=X8:=t7.out rfl
      go_wp2_with fail
      go_round
      case rel=>exact Or.inr (Or.inr (Or.inr (Or.inr (Or.inr (Or.inr (Or.inr (Or.inr (⟨rfl,rfl⟩))))))))
      case measure=>simp [intOf]
  . go_wp2_with fail
    go_returns
    exact ⟨rfl,(Go.Joins.below_alloc2 _ _ _).trans (below_drew' _ _)⟩
theorem pack_ok (p r u a d l g n:Bool) (f:Int) (f0:0<=f) (f1:f<1048576) (w:World) (ht:Tab w) :
 Calls Tryz.prog 50 #[.agg (sd p r u a d l g n f)] w fun e w'=>e=.returned (.tuple #[.int .u64 (packV p r u a d l g n f),.int .i64 0])/\bc w w' :=
 pack_walk p r u a d l g n f f0 f1 (f*4096) (f*4096+fl p 1) (f*4096+fl p 1+fl r 2) (f*4096+fl p 1+fl r 2+fl u 4) (f*4096+fl p 1+fl r 2+fl u 4+fl a 32) (f*4096+fl p 1+fl r 2+fl u 4+fl a 32+fl d 64) (f*4096+fl p 1+fl r 2+fl u 4+fl a 32+fl d 64+fl l 128) (f*4096+fl p 1+fl r 2+fl u 4+fl a 32+fl d 64+fl l 128+fl g 256) (f*4096+fl p 1+fl r 2+fl u 4+fl a 32+fl d 64+fl l 128+fl g 256+fl n 9223372036854775808) rfl
  (fun q=>by subst q;exact or_0  f f0 f1) (fun q=>by subst q;rw [fl_false,Int.add_zero]) (fun q=>by subst q;exact or_1 p f f0 f1) (fun q=>by subst q;rw [fl_false,Int.add_zero]) (fun q=>by subst q;exact or_2 p r f f0 f1) (fun q=>by subst q;rw [fl_false,Int.add_zero]) (fun q=>by subst q;exact or_3 p r u f f0 f1) (fun q=>by subst q;rw [fl_false,Int.add_zero]) (fun q=>by subst q;exact or_4 p r u a f f0 f1) (fun q=>by subst q;rw [fl_false,Int.add_zero]) (fun q=>by subst q;exact or_5 p r u a d f f0 f1) (fun q=>by subst q;rw [fl_false,Int.add_zero]) (fun q=>by subst q;exact or_6 p r u a d l f f0 f1) (fun q=>by subst q;rw [fl_false,Int.add_zero]) (fun q=>by subst q;exact or_7 p r u a d l g f f0 f1) (fun q=>by subst q;rw [fl_false,Int.add_zero]) w ht
def resV (x level:Int):Bool:=bt x && ((x / 4294967296 % 1048576 != 0) || (if 3<=level then bt (x / 128) else (level==2 && bt (x / 128) && (x / 4096 % 512 != 0))))
theorem and_above (x:Int) (x0:0<=x) (x1:x<18446744073709551616):(bits .and .u64 x 4503595332403200 != 0)=(x / 4294967296 % 1048576 != 0):=by
 rw [and_mask x x0 x1 32 20 _ (by decide) (by omega)]
 simp only [Int.reducePow]
 rcases Decidable.em (x / 4294967296 % 1048576=0) with h | h
 . rw [h];rfl
 . rw [bne_iff_ne.2 h,bne_iff_ne.2 (by omega)]
theorem and_large (x:Int) (x0:0<=x) (x1:x<18446744073709551616):(bits .and .u64 x 128 != 0)=bt (x / 128):=by
 rw [and_mask x x0 x1 7 1 _ (by decide) (by omega)]
 simp only [Int.reducePow]
 unfold bt
 rcases (show x / 128 % 2=0\/x / 128 % 2=1 by omega) with h | h <;> rw [h] <;> rfl
theorem and_inside (x:Int) (x0:0<=x) (x1:x<18446744073709551616):(bits .and .u64 x 2093056 != 0)=(x / 4096 % 512 != 0):=by
 rw [and_mask x x0 x1 12 9 _ (by decide) (by omega)]
 simp only [Int.reducePow]
 rcases Decidable.em (x / 4096 % 512=0) with h | h
 . rw [h];rfl
 . rw [bne_iff_ne.2 h,bne_iff_ne.2 (by omega)]
theorem and_both (x a b c:Int) (x0:0<=x) (x1:x<18446744073709551616) (a0:0<=a) (a1:a<18446744073709551616) (b0:0<=b) (b1:b<18446744073709551616) (c1:c<18446744073709551616) (hc:c=((a.toNat ||| b.toNat:Nat):Int)) :
 (bits .and .u64 x c != 0)=((bits .and .u64 x a != 0) || (bits .and .u64 x b != 0)):=by
 subst hc
 rw [u64_and x _ x0 x1 (by omega) c1,u64_and x a x0 x1 a0 a1,u64_and x b x0 x1 b0 b1,Int.toNat_natCast,Nat.and_or_distrib_left]
 generalize x.toNat &&& a.toNat=p
 generalize x.toNat &&& b.toNat=q
 have h:(p ||| q=0)↔p=0/\q=0:=Nat.or_eq_zero_iff
 by_cases hp:p=0
 . subst hp;rw [Nat.zero_or];rfl
 . have hne:p ||| q≠0:=fun e=>hp (h.1 e).1
   rw [bne_iff_ne.2 (show ((p ||| q:Nat):Int)≠0 by omega),bne_iff_ne.2 (show ((p:Nat):Int)≠0 by omega)];rfl
theorem and_one_eq (x:Int) (x0:0<=x) (x1:x<18446744073709551616):(bits .and .u64 x 1==0)= !bt x:=by
 rw [<- and_one x x0 x1,bne,Bool.not_not]
theorem reserved_any (x level:Int) (x0:0<=x) (x1:x<18446744073709551616) (w:World) :
 Calls Tryz.prog 113 #[.int .u64 x,.int .i64 level] w fun e w'=>e=.returned (.bool (resV x level))/\w'=w:=by
 have o1:bits .or .u64 4503595332403200 128=4503595332403328:=by rw [u64_or _ _ (by omega) (by omega) (by omega) (by omega)];decide
 have o2:bits .or .u64 4503595332403200 2093056=4503595334496256:=by rw [u64_or _ _ (by omega) (by omega) (by omega) (by omega)];decide
 have m1:(bits .and .u64 x 4503595332403328 != 0)=((x / 4294967296 % 1048576 != 0) || bt (x / 128)):=by
  rw [and_both x 4503595332403200 128 4503595332403328 x0 x1 (by omega) (by omega) (by omega) (by omega) (by omega) (by decide),and_above x x0 x1,and_large x x0 x1]
 have m2:(bits .and .u64 x 4503595334496256 != 0)=((x / 4294967296 % 1048576 != 0) || (x / 4096 % 512 != 0)):=by
  rw [and_both x 4503595332403200 2093056 4503595334496256 x0 x1 (by omega) (by omega) (by omega) (by omega) (by omega) (by decide),and_above x x0 x1,and_inside x x0 x1]
 have m3:=and_above x x0 x1
 have m4:=and_large x x0 x1
 have m5:=and_one_eq x x0 x1
 unfold resV
 generalize hA:(x / 4294967296 % 1048576 != 0)=A at *
 generalize hB:(x / 4096 % 512 != 0)=B at *
 generalize hL:bt (x / 128)=L at *
 generalize hP:bt x=P at *
 clear hA hB hL hP
 obtain ⟨R,hR⟩: ∃ R,(P && (A || if 3<=level then L else level==2 && L && B))=R:=⟨_,rfl⟩
 rw [hR]
 cases P
 . have m5:(bits .and .u64 x 1==0)=true:=m5
   have HR:Hid (false=R):=hR
   clear hR
   go_enter Tryz.func113,Tryz.ntmps113
   go_wp2_with fail
   go_ret
   exact ⟨by rw [<- HR.out];rfl,rfl⟩
 . have m5:(bits .and .u64 x 1==0)=false:=m5
   by_cases h3:3<=level
   . rw [if_pos h3] at hR
     have HR:Hid ((true && (A || L))=R):=hR
     clear hR
     go_enter Tryz.func113,Tryz.ntmps113
     go_wp2_with fail
     go_ret
     exact ⟨by rw [<- HR.out];simp,rfl⟩
   . rw [if_neg h3] at hR
     have h3':level<3:=by omega
     clear h3
     by_cases h2:level=2
     . subst h2
       cases L
       . have m4:(bits .and .u64 x 128 != 0)=false:=m4
         have HR:Hid (A=R):=by rw [<- hR];simp [Hid]
         clear hR
         go_enter Tryz.func113,Tryz.ntmps113
         go_wp2_with fail
         go_ret
         exact ⟨by rw [<- HR.out];rfl,rfl⟩
       . have m4:(bits .and .u64 x 128 != 0)=true:=m4
         have HR:Hid ((A || B)=R):=by rw [<- hR];simp [Hid]
         clear hR
         go_enter Tryz.func113,Tryz.ntmps113
         go_wp2_with fail
         go_ret
         exact ⟨by rw [<- HR.out];rfl,rfl⟩
     . have h2':(level==2)=false:=by simp [h2]
       have HR:Hid (A=R):=by rw [<- hR,h2'];simp [Hid]
       clear h2 hR
       go_enter Tryz.func113,Tryz.ntmps113
       go_wp2_with fail
       go_ret
       exact ⟨by rw [<- HR.out];rfl,rfl⟩
theorem own:ownKnob Tryz.prog.godebug=none:=ka
theorem laidOut:laidOutB Tryz.prog=true:=ka
theorem gFlags : Tryz.prog.globalNamed "demesne/pte.flagBits" = some 0 := by kernel_rfl
theorem tFlags:(Tryz.prog.globals[0]?).map (·.type)=some 208:=ka
abbrev laidL : List (String × DataW Unit) := [("demesne/pte.flagBits", Rows.laid_demesne_pte_flagBits)]
theorem door_met (os:Os) (args:Array Value):laidMetH Tryz.prog laidL ((World.doorLaid Tryz.prog 400 os).forCall (fun _ _=>0) ⟨#[],args,[]⟩).memory :=
 laidMetH_of_parts3 (fuel:=8) (laidMet_of_run' 8 ka ka) ka ka
theorem of_laid {W:World} (h:laidMetH Tryz.prog laidL W):Tab W:=by
 rw [MakeChecks.laidMetH_plain _ _ _ ka] at h
 have hT : Lib.TabIs Tryz.prog W "demesne/pte.flagBits" .i64 [0, 1, 2, 5, 6, 7, 8, 63] :=
  Lib.tabIs_of_head (k:=.i64) (zs:=[0,1,2,5,6,7,8,63]) gFlags tFlags (Tryz.underlying208) (Tryz.underlying3) ka ka h
 have c:=fun i (hi:i<8)=>hT.cell gFlags i hi
 refine ⟨?_,c 0 (by omega),c 1 (by omega),c 2 (by omega),c 3 (by omega),c 4 (by omega),c 5 (by omega),c 6 (by omega),c 7 (by omega)⟩
 have h0:=c 0 (by omega)
 cases hh:W.heap[0]? with
 | none => simp [World.cell?, hh] at h0
 | some o => exact (Array.getElem?_eq_some_iff.1 hh).1
theorem args_stay {H:Type} {enc:TypeId × Value->H} {P:Program} {W W':World} (hl:laidOutB P=true) (hb:bc W W') :
 ∀ {ts:List TypeId} {vs:List Value} {ds:List (DataW H)} {ps:List MemPlace},(ts.all fun t=>P.readableRec t && decide (t<P.types.size))=true ->
  DataW.TrodAll enc P W 0 (fun _=>true) true ts vs ds ps->(∀ x∈ps,x.block<W.heap.size)->DataW.TrodAll enc P W' 0 (fun b=>decide (b<W.heap.size)) true ts vs ds ps
 | [], vs, ds, ps, _, h, _ => by
  obtain ⟨rfl,rfl,rfl⟩:=trodAll_nil h
  exact trodAll_mk0
 | t :: ts, vs, ds, ps, ha, h, hp => by
  obtain ⟨v,vs0,d,ds0,p,q,rfl,rfl,rfl,h0,r0⟩:=trodAll_cons h
  simp only [List.all_cons,Bool.and_eq_true,decide_eq_true_eq] at ha
  exact trodAll_cons_mk (Below.trod hl ha.1.1 ha.1.2 h0 hb (fun x hx=>hp x (List.mem_append_left _ hx)))
   (args_stay hl hb (by simpa using ha.2) r0 (fun x hx=>hp x (List.mem_append_right _ hx)))
theorem cell_keep {B b i:Nat} {w w':World} (h:Below B w w') (hb:b<B):w'.cell? ⟨b,i,none⟩=w.cell? ⟨b,i,none⟩:=by
 have e:w'.heap[b]? =w.heap[b]? :=h.block b hb
 simp [World.cell?,e]
theorem cell_next {B b i:Nat} {w w':World} {v:Value} (h:Below B w w') (hb:b<B) (hx:w.cell? ⟨b,i,none⟩=some v):w'.cell? ⟨b,i,none⟩=some v:=(cell_keep h hb).trans hx
theorem below_then {w w1 w2:World} (h:bc w w1) (k:bc w1 w2):bc w w2:=h.trans (Go.Joins.below_le k h.size)
theorem below_new {w w1:World} (h:bc w w1) (o:Obj):bc w (w1.alloc o):=h.alloc h.size o
theorem below_new2 {w w1:World} (h:bc w w1) (o o2:Obj):bc w ((w1.alloc o).alloc o2):=below_new (below_new h o) o2
theorem bt_fl (b:Bool) (y:Int) (h:y % 2=fl b 1):bt y=b:=by
 unfold bt;rw [h];cases b <;> rfl
theorem fl_mul (b:Bool) (v:Int):fl b v=fl b 1*v:=by cases b <;> simp [fl]
theorem bt_at (b:Bool) (S t r m:Int) (m0:0<m) (r0:0<=r) (r1:r<m) (h:S=(2*t+fl b 1)*m+r):bt (S / m)=b:=by
 have e:S / m=2*t+fl b 1:=by
  rw [h,Int.add_comm,Int.add_mul_ediv_right _ _ (by omega),Int.ediv_eq_zero_of_lt r0 r1];omega
 apply bt_fl
 rw [e]
 have:=fl_bd b 1 (by omega)
 omega
theorem unp_pack (p q u a d l g n:Bool) (f:Int) (f0:0<=f) (f1:f<1048576):unp (packV p q u a d l g n f)=.agg (sd p q u a d l g n f):=by
 have h0:=fl_bd p 1 (by omega)
 have h1:=fl_bd q 1 (by omega)
 have h2:=fl_bd u 1 (by omega)
 have h3:=fl_bd a 1 (by omega)
 have h4:=fl_bd d 1 (by omega)
 have h5:=fl_bd l 1 (by omega)
 have h6:=fl_bd g 1 (by omega)
 have h7:=fl_bd n 1 (by omega)
 obtain ⟨S,hS⟩: ∃ S,packV p q u a d l g n f=S:=⟨_,rfl⟩
 have e:S=f*4096+fl p 1+fl q 1*2+fl u 1*4+fl a 1*32+fl d 1*64+fl l 1*128+fl g 1*256+fl n 1*9223372036854775808:=by
  rw [<- hS];unfold packV
  rw [fl_mul q 2,fl_mul u 4,fl_mul a 32,fl_mul d 64,fl_mul l 128,fl_mul g 256,fl_mul n 9223372036854775808]
 rw [hS]
 clear hS
 unfold unp
 have b0:bt S=p:=by
  have:=bt_at p S (f*2048+fl q 1+fl u 1*2+fl a 1*16+fl d 1*32+fl l 1*64+fl g 1*128+fl n 1*4611686018427387904) 0 1 (by omega) (by omega) (by omega) (by omega)
  rw [Int.ediv_one] at this;exact this
 have b1:bt (S / 2)=q:=bt_at q S (f*1024+fl u 1+fl a 1*8+fl d 1*16+fl l 1*32+fl g 1*64+fl n 1*2305843009213693952) (fl p 1) 2 (by omega) (by omega) (by omega) (by omega)
 have b2:bt (S / 4)=u:=bt_at u S (f*512+fl a 1*4+fl d 1*8+fl l 1*16+fl g 1*32+fl n 1*1152921504606846976) (fl p 1+fl q 1*2) 4 (by omega) (by omega) (by omega) (by omega)
 have b3:bt (S / 32)=a:=bt_at a S (f*64+fl d 1+fl l 1*2+fl g 1*4+fl n 1*144115188075855872) (fl p 1+fl q 1*2+fl u 1*4) 32 (by omega) (by omega) (by omega) (by omega)
 have b4:bt (S / 64)=d:=bt_at d S (f*32+fl l 1+fl g 1*2+fl n 1*72057594037927936) (fl p 1+fl q 1*2+fl u 1*4+fl a 1*32) 64 (by omega) (by omega) (by omega) (by omega)
 have b5:bt (S / 128)=l:=bt_at l S (f*16+fl g 1+fl n 1*36028797018963968) (fl p 1+fl q 1*2+fl u 1*4+fl a 1*32+fl d 1*64) 128 (by omega) (by omega) (by omega) (by omega)
 have b6:bt (S / 256)=g:=bt_at g S (f*8+fl n 1*18014398509481984) (fl p 1+fl q 1*2+fl u 1*4+fl a 1*32+fl d 1*64+fl l 1*128) 256 (by omega) (by omega) (by omega) (by omega)
 have b7:bt (S / 9223372036854775808)=n:=bt_at n S 0 (f*4096+fl p 1+fl q 1*2+fl u 1*4+fl a 1*32+fl d 1*64+fl l 1*128+fl g 1*256) 9223372036854775808 (by omega) (by omega) (by omega) (by omega)
 have b8:S / 4096 % 1048576=f:=by
  have e2:S=(f+fl n 1*2251799813685248)*4096+(fl p 1+fl q 1*2+fl u 1*4+fl a 1*32+fl d 1*64+fl l 1*128+fl g 1*256):=by omega
  rw [e2,Int.add_comm,Int.add_mul_ediv_right _ _ (by omega),Int.ediv_eq_zero_of_lt (by omega) (by omega)]
  generalize fl n 1=z
  clear e e2 b0 b1 b2 b3 b4 b5 b6 b7 h0 h1 h2 h3 h4 h5 h6 h7
  omega
 rw [b0,b1,b2,b3,b4,b5,b6,b7,b8]
end Go.Proofs.YtgbdnnkkcpkhdaaGreatDoor
