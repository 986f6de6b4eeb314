import Derived.Test.YtgbdnnkkcpkhdaaGreatDoorTVc
import Derived.Test.YtgbdnnkkcpkhdaaGreatDoorMCc
import Derived.Test.YtgbdnnkkcpkhdaaGreatDoorWBc
import Derived.Test.YtgbdnnkkcpkhdaaGreatDoorSWc
import Derived.Test.YtgbdnnkkcpkhdaaGreatDoorKZc
set_option linter.unusedSimpArgs false
set_option linter.unusedVariables false
set_option maxRecDepth 8000
set_option maxHeartbeats 2000000
open Go.ChangeShapes Go.WideShapes Go.ChangeAt Go.RowKit Go.Maps
namespace Go.Proofs.YtgbdnnkkcpkhdaaGreatDoor.Tl
def evictT (T:Nat->Ln) (i:Nat):Nat->Ln:=fun k=>if k=i then Ln.zero else T k
theorem evict_ok (b:Nat) (T:Nat->Ln) (s y:Nat) (hs:s<8) (hy:y<2) (w:World) (h:IsTlb w b T) :
 Calls Tryz.prog 29 (sf (.pointer (some ⟨b,0,none⟩)) s y) w fun e w'=>e=.returned (.int .i64 0)/\IsTlb w' b (evictT T (2*s+y))/\w.grownBy w' (some b):=by
 have d0:decide ((s:Int)<0)=false:=by simp
 have d1:decide (8<=(s:Int))=false:=kh
 have d2:decide ((y:Int)<0)=false:=by simp
 have d3:decide (2<=(y:Int))=false:=kh
 have k0:(0:Int)<=(s:Int):=by omega
 have k8:(s:Int)<8:=by omega
 have j0:(0:Int)<=(y:Int):=by omega
 have j2:(y:Int)<2:=by omega
 have hb:=h.2.2
 have HT:Hid (IsTlb w b T):=h
 have TH:Hid (w.there b (s*18+y*9) 9):=h.free _ _ (by omega)
 clear h
 go_enter Tryz.func29,Tryz.ntmps29
 go_wp2_with (refine store_pat b (s*18+y*9) sl1 ?hx ?hy ?ht ?hi ?h1 ?rest;(case hx=>rfl);(case hy=>rfl);(case ht=>exact TH.out);(case hi=>exact line_info);(case h1=>exact zero_one))
 go_ret
 refine ⟨rfl,?_,grown_setCells _ _ _ _⟩
 have:=HT.out.put (2*s+y) (by omega) Ln.zero
 rw [show (2*s+y)*9=s*18+y*9 by omega] at this
 exact this
end Go.Proofs.YtgbdnnkkcpkhdaaGreatDoor.Tl
namespace Go.Proofs.YtgbdnnkkcpkhdaaGreatDoor.Tt
def Lk (X Y:Int):Prop:=X % 32=Y % 32/\X / 128=Y / 128
theorem orb_nat (X:Int) (b:Nat) (h0:0<=X) (h1:X<18446744073709551616) (hb:b<128):orb X b=((X.toNat ||| b:Nat):Int):=by
 unfold orb
 rw [u64_or X b h0 h1 (by omega) (by omega)]
 simp
theorem orb_lk (X:Int) (b:Nat) (h0:0<=X) (h1:X<18446744073709551616) (hb:b=32\/b=96):Lk X (orb X b):=by
 rw [orb_nat X b h0 h1 (by omega)]
 have d:(X.toNat ||| b) / 2 ^ 7=X.toNat / 2 ^ 7:=by
  rw [Nat.or_div_two_pow,Nat.div_eq_of_lt (show b<2 ^ 7 by omega),Nat.or_zero]
 have m:(X.toNat ||| b) % 2 ^ 5=X.toNat % 2 ^ 5:=by
  rw [Nat.or_mod_two_pow,show b % 2 ^ 5=0 by omega,Nat.or_zero]
 generalize X.toNat ||| b=Y at *
 exact ⟨by omega,by omega⟩
theorem ent_set (M:Int->Int) (q v T P:Int) (h0:0<=v) (h1:v<18446744073709551616):entV (mset M (8*q) 8 v) T P=if T*4096+P*8=8*q then v else entV M T P:=by
 unfold entV
 by_cases h:T*4096+P*8=8*q
 . rw [if_pos h,h];exact ld_mset8 M (8*q) v h0 h1
 . rw [if_neg h]
   exact ld_mset_apart M (by show _\/_;simp only [show (8:Int).toNat=8 from rfl];omega)
theorem fl_one (b:Bool) (v:Int):fl b v=0\/fl b v=v:=by cases b;exact Or.inl rfl;exact Or.inr rfl
theorem fl_bt (z v:Int):fl (bt z) v=z % 2*v:=by
 unfold bt fl
 by_cases c:z % 2=1
 . rw [c];simp
 . rw [show z % 2=0 by omega];simp
theorem fl_mul (b:Bool) (v k:Int) (h:v % k=0):fl b v % k=0:=by cases b;exact Int.zero_emod k;exact h
theorem lk_pack {p w u a d l g n:Bool} {f y:Int} (h:Lk (packV p w u a d l g n f) y):y=packV p w u (bt (y / 32)) (bt (y / 64)) l g n f:=by
 obtain ⟨h1,h2⟩:=h
 unfold packV at h1 h2 |-
 rw [fl_bt,fl_bt]
 have e1:=fl_one p 1
 have e2:=fl_one w 2
 have e3:=fl_one u 4
 have e4:=fl_one a 32
 have e5:=fl_one d 64
 have e6:=fl_mul l 128 128 (by decide)
 have e7:=fl_mul g 256 128 (by decide)
 have e8:=fl_mul n 9223372036854775808 128 (by decide)
 generalize fl p 1=x1 at *
 generalize fl w 2=x2 at *
 generalize fl u 4=x3 at *
 generalize fl a 32=x4 at *
 generalize fl d 64=x5 at *
 generalize fl l 128=x6 at *
 generalize fl g 256=x7 at *
 generalize fl n 9223372036854775808=x8 at *
 have b1:0<=x1/\x1<=1:=by omega
 have b2:0<=x2/\x2<=2:=by omega
 have b3:0<=x3/\x3<=4:=by omega
 have b4:0<=x4/\x4<=32/\x4 % 32=0:=by omega
 have b5:0<=x5/\x5<=64/\x5 % 32=0:=by omega
 clear e1 e2 e3 e4 e5
 omega
theorem MkT.lk {x y:Int} {f:Nat} (h:MkT x f) (k:Lk x y):MkT y f:=by
 obtain ⟨h1,a,d,rfl⟩:=h
 exact ⟨h1,_,_,lk_pack k⟩
theorem MkL.lk {x y:Int} {v:Lf} (h:MkL x v) (k:Lk x y):MkL y v:=by
 obtain ⟨h1,a,d,rfl⟩:=h
 exact ⟨h1,_,_,lk_pack k⟩
def Mrk (M N:Int->Int):Prop:= ∀ T P:Int,entV N T P=entV M T P\/(bt (entV M T P)=true/\Lk (entV M T P) (entV N T P))
theorem Mrk.refl (M:Int->Int):Mrk M M:=fun _ _=>Or.inl rfl
theorem Mrk.next {M N:Int->Int} (hM: ∀ t,0<=M t/\M t<256) (h:Mrk M N) (T0 P0:Int) (hb:bt (entV M T0 P0)=true) (b:Nat) (e:b=32\/b=96):Mrk M (mset N (T0*4096+P0*8) 8 (orb (entV M T0 P0) b)):=by
 intro T P
 have bd:=ent_bd hM T0 P0
 have ob:=orb_bd (entV M T0 P0) b bd.1 bd.2 (by omega) (by omega)
 rw [show T0*4096+P0*8=8*(T0*512+P0) by omega,ent_set N _ _ T P ob.1 ob.2]
 split
 . rename_i c
   have:entV M T P=entV M T0 P0:=by unfold entV;rw [show T*4096+P*8=T0*4096+P0*8 by omega]
   rw [this]
   exact Or.inr ⟨hb,orb_lk _ b bd.1 bd.2 e⟩
 . exact h T P
section
variable {has:Int->Bool} {M N:Int->Int} {root:Nat} {tab:Nat->Nat->Option Nat} {lf:Nat->Option Lf}
theorem Mrk.zero (h:Mrk M N) {T P:Int} (e:En M T P=0):En N T P=0:=by
 have e:entV M T P=0:=e
 show entV N T P=0
 rcases h T P with q | ⟨q,_⟩
 . rw [q,e]
 . rw [e] at q;exact absurd q (by decide)
theorem Mrk.mkt (h:Mrk M N) {T P:Int} {f:Nat} (e:MkT (En M T P) f):MkT (En N T P) f:=by
 have e:MkT (entV M T P) f:=e
 show MkT (entV N T P) f
 rcases h T P with q | ⟨_,q⟩
 . rw [q];exact e
 . exact e.lk q
theorem Mrk.mkl (h:Mrk M N) {T P:Int} {v:Lf} (e:MkL (En M T P) v):MkL (En N T P) v:=by
 have e:MkL (entV M T P) v:=e
 show MkL (entV N T P) v
 rcases h T P with q | ⟨_,q⟩
 . rw [q];exact e
 . exact e.lk q
theorem PW.mrk (H:PW M root tab lf) (h:Mrk M N):PW N root tab lf:=by
 refine ⟨H.t4,H.dom,fun l x f hl e=> ?_,fun l x g h1 h2 h3 e1 e2=>h.zero (H.no l x g h1 h2 h3 e1 e2),fun p v e=> ?_,fun p g hp e1 e2=>h.zero (H.lf0 p g hp e1 e2),H.inj⟩
 . obtain ⟨g,e1,e2⟩:=H.up l x f hl e
   exact ⟨g,e1,h.mkt e2⟩
 . obtain ⟨hp,g,e1,e2⟩:=H.lf1 p v e
   exact ⟨hp,g,e1,h.mkl e2⟩
end
structure Bits (X:Int) (p q u d l g n:Bool) (f:Int):Prop where
 p:bt X=p
 q:bt (X / 2)=q
 u:bt (X / 4)=u
 d:bt (X / 64)=d
 l:bt (X / 128)=l
 g:bt (X / 256)=g
 n:bt (X / 9223372036854775808)=n
 f:X / 4096 % 1048576=f
 z:X / 4294967296 % 1048576=0
theorem pack_bits (p q u a d l g n:Bool) (f:Int) (f0:0<=f) (f1:f<1048576):Bits (packV p q u a d l g n f) p q u d l g n f:=by
 have h:=unp_pack p q u a d l g n f f0 f1
 unfold unp at h
 simp only [Value.agg.injEq,Array.mk.injEq,List.cons.injEq,Value.bool.injEq,Value.int.injEq,and_true,true_and] at h
 obtain ⟨h0,h1,h2,h3,h4,h5,h6,h7,h8⟩:=h
 refine ⟨h0,h1,h2,h4,h5,h6,h7,h8,?_⟩
 unfold packV fl
 cases p <;> cases q <;> cases u <;> cases a <;> cases d <;> cases l <;> cases g <;> cases n <;> simp <;> omega
theorem bad_ok {has:Int->Bool} {M:Int->Int} {T P L ad cd f:Int} {q u d l g n:Bool} (hc:chkG has (T*4096+P*8) 8=0) (h:Bits (En M T P) true q u d l g n f) (hl:l=false\/(L=2/\f=0)):badV has M T P L ad cd=none:=by
 unfold badV
 have e:entV M T P=En M T P:=rfl
 rw [if_neg (by rw [hc];simp),e,if_neg (by rw [h.p];simp),if_neg]
 unfold resV
 rw [h.p,h.z,h.l]
 rcases hl with e1 | ⟨e1,e2⟩
 . subst e1;simp
 . subst e1 e2
   have q:=h.f
   have:En M T P / 4096 % 512=0:=by omega
   rw [this];simp
abbrev okV (fr:Int) (w u x g l d:Bool):Value:=.tuple #[.agg (sd1 fr w u x g l d),.agg #[.int .u64 0,.int .i64 0],.int .i64 0]
section
variable {has:Int->Bool} {M:Int->Int} {root:Nat} {tab:Nat->Nat->Option Nat} {lf:Nat->Option Lf}
theorem mkt_bits {x:Int} {f:Nat} (h:MkT x f): ∃ d,Bits x true true true d false false false f:=by
 obtain ⟨h1,a,d,rfl⟩:=h
 exact ⟨d,pack_bits true true true a d false false false f (by omega) (by omega)⟩
theorem mkl_bits {x:Int} {v:Lf} (h:MkL x v): ∃ d,Bits x true v.w v.u d false false (!v.x) v.f:=by
 obtain ⟨h1,a,d,rfl⟩:=h
 exact ⟨d,pack_bits true v.w v.u a d false false (!v.x) v.f h1.1 h1.2⟩
theorem mset_bd (hM: ∀ t,0<=M t/\M t<256) (a n y:Int): ∀ t,0<=mset M a n y t/\mset M a n y t<256:=fun t=>by
 unfold mset
 split
 . exact ⟨Int.emod_nonneg _ (by omega),Int.emod_lt_of_pos _ (by omega)⟩
 . exact hM t
theorem mset_far (a n y t:Int) (h: ¬ (a<=t/\t<a+n)):mset M a n y t=M t:=by unfold mset;rw [if_neg h]
theorem walk_yes (H:PW M root tab lf) (hM: ∀ t,0<=M t/\M t<256) (hc: ∀ l x f,tab l x=some f->has (f:Int)=true/\ ∀ P:Int,0<=P->P<512->chkG has ((f:Int)*4096+P*8) 8=0) {addr:Int} (he:(ext addr==addr)=true) {p:Nat} (hp:p<34359738368) (ha:addr / 4096=(p:Int)) {v:Lf} (hl:lf p=some v) (x u f:Bool) (hm:mayV v.w v.u v.x x u f=true) :
 ∃ (d:Bool) (N:Int->Int) (r:WR),Path has M root addr x u f r/\r.val=okV v.f v.w v.u v.x false false d/\(x=true->d=true)/\r.M=N/\Mrk M N/\PW N root tab lf/\(∀ t,0<=N t/\N t<256)/\ ∀ t:Int,(∀ l y (g:Nat),tab l y=some g-> ¬ ((g:Int)*4096<=t/\t<(g:Int)*4096+4096))->N t=M t:=by
 obtain ⟨r1,r2⟩:=hc 4 0 root H.t4
 obtain ⟨i0,i1,i2,i3⟩:=at_at p
 have a0:atP p 0=((pre 3 p % 512:Nat):Int):=rfl
 have a1:atP p 1=((pre 2 p % 512:Nat):Int):=rfl
 have a2:atP p 2=((pre 1 p % 512:Nat):Int):=rfl
 have a3:atP p 3=((p % 512:Nat):Int):=rfl
 have p3:=pre3 hp
 obtain ⟨_,f1,t1,mk3⟩:=H.lf1 p v hl
 obtain ⟨f2,t2,mk2⟩:=H.up 1 (pre 1 p) f1 (by omega) t1
 obtain ⟨f3,t3,mk1⟩:=H.up 2 (pre 2 p) f2 (by omega) t2
 obtain ⟨g,hg,mk0⟩:=H.up 3 (pre 3 p) f3 (by omega) t3
 have eg:g=root:=by
  have up4:tab 4 (pre 3 p / 512)=some root:=by rw [show pre 3 p / 512=0 by omega];exact H.t4
  exact sia (hg.symm.trans up4)
 subst eg
 obtain ⟨d0,b0⟩:=mkt_bits mk0
 obtain ⟨d1,b1⟩:=mkt_bits mk1
 obtain ⟨d2,b2⟩:=mkt_bits mk2
 obtain ⟨d3,b3⟩:=mkl_bits mk3
 rw [<- a0] at b0
 rw [<- a1] at b1
 rw [<- a2] at b2
 rw [<- a3] at b3
 obtain ⟨_,c3⟩:=hc _ _ _ t3
 obtain ⟨_,c2⟩:=hc _ _ _ t2
 obtain ⟨_,c1⟩:=hc _ _ _ t1
 have e0:entV M g (atP p 0) / 4096 % 1048576=(f3:Int):=b0.f
 have e1:entV M f3 (atP p 1) / 4096 % 1048576=(f2:Int):=b1.f
 have e2:entV M f2 (atP p 2) / 4096 % 1048576=(f1:Int):=b2.f
 have e2':bt (entV M f2 (atP p 2) / 128)=false:=b2.l
 have E0:entV M g (atP p 0)=En M g (atP p 0):=rfl
 have E1:entV M f3 (atP p 1)=En M f3 (atP p 1):=rfl
 have E2:entV M f2 (atP p 2)=En M f2 (atP p 2):=rfl
 have E3:entV M f1 (atP p 3)=En M f1 (atP p 3):=rfl
 obtain ⟨bb,eb,hb⟩: ∃ bb:Nat,(if x=true then 96 else 32:Int)=(bb:Nat)/\(bb=32\/bb=96):=by
  cases x
  . exact ⟨32,rfl,Or.inl rfl⟩
  . exact ⟨96,rfl,Or.inr rfl⟩
 have mr:=((((Mrk.refl M).next hM g (atP p 0) b0.p 32 (Or.inl rfl)).next hM f3 (atP p 1) b1.p 32 (Or.inl rfl)).next hM f2 (atP p 2) b2.p 32 (Or.inl rfl)).next hM f1 (atP p 3) b3.p bb hb
 obtain ⟨N,hN⟩: ∃ N,N=mset (mset (mset (mset M ((g:Int)*4096+atP p 0*8) 8 (orb (entV M g (atP p 0)) 32)) ((f3:Int)*4096+atP p 1*8) 8 (orb (entV M f3 (atP p 1)) 32)) ((f2:Int)*4096+atP p 2*8) 8 (orb (entV M f2 (atP p 2)) 32)) ((f1:Int)*4096+atP p 3*8) 8 (orb (entV M f1 (atP p 3)) (bb:Nat)):=⟨_,rfl⟩
 have mr:Mrk M N:=by rw [hN];exact mr
 refine ⟨d3 || x,N,end4 M addr (codeV x u f) x u f ((g:Int)*4096+atP p 0*8) (entV M g (atP p 0)) ((f3:Int)*4096+atP p 1*8) (entV M f3 (atP p 1)) ((f2:Int)*4096+atP p 2*8) (entV M f2 (atP p 2)) ((f1:Int)*4096+atP p 3*8) (entV M f1 (atP p 3)),⟨atP p 0,atP p 1,atP p 2,atP p 3,_,_,_,_,f3,f2,f1,he,r1,⟨by rw [ha];exact i0.symm,by rw [ha];exact i1.symm,by rw [ha];exact i2.symm,by rw [ha];exact i3.symm⟩,⟨rfl,bad_ok (r2 _ (at_bd p 0).1 (at_bd p 0).2) b0 (Or.inl rfl),e0⟩,⟨rfl,bad_ok (c3 _ (at_bd p 1).1 (at_bd p 1).2) b1 (Or.inl rfl),e1⟩,⟨rfl,bad_ok (c2 _ (at_bd p 2).1 (at_bd p 2).2) b2 (Or.inl rfl),e2',e2⟩,⟨rfl,bad_ok (c1 _ (at_bd p 3).1 (at_bd p 3).2) b3 (Or.inl rfl)⟩,?_,rfl⟩,?_,by intro e;rw [e];simp,?_,mr,H.mrk mr,?_,fun t ht=> ?_⟩
 . rw [E0,E1,E2,E3]
   simp only [b0.q,b1.q,b2.q,b3.q,b0.u,b1.u,b2.u,b3.u,b0.n,b1.n,b2.n,b3.n,Bool.true_and,Bool.not_false,Bool.not_not]
   exact hm
 . unfold end4
   rw [E0,E1,E2,E3]
   simp only [b0.q,b1.q,b2.q,b3.q,b0.u,b1.u,b2.u,b3.u,b0.n,b1.n,b2.n,b3.n,b3.f,b3.g,b3.d,Bool.true_and,Bool.not_false,Bool.not_not,Bool.false_or]
   rw [if_pos hm]
 . unfold end4
   rw [eb]
   rw [E0,E1,E2,E3] at hN |-
   simp only [b0.q,b1.q,b2.q,b3.q,b0.u,b1.u,b2.u,b3.u,b0.n,b1.n,b2.n,b3.n,b3.f,b3.g,b3.d,Bool.true_and,Bool.not_false,Bool.not_not,Bool.false_or]
   rw [if_pos hm,hN]
 . rw [hN]
   exact mset_bd (mset_bd (mset_bd (mset_bd hM _ _ _) _ _ _) _ _ _) _ _ _
 . have q: ∀ l y (k:Nat) (i:Nat),tab l y=some k-> ¬ ((k:Int)*4096+atP p i*8<=t/\t<(k:Int)*4096+atP p i*8+8):=fun l y k i e z=>by
    have:=at_bd p i
    exact ht l y k e (by omega)
   rw [hN,mset_far _ _ _ _ (q _ _ _ 3 t1),mset_far _ _ _ _ (q _ _ _ 2 t2),mset_far _ _ _ _ (q _ _ _ 1 t3),mset_far _ _ _ _ (q _ _ _ 0 hg)]
end
section
variable {X:Nat->Prop} {W:World} {m:Pm} {s:Ps} {root:Nat} {tab:Nat->Nat->Option Nat} {lf:Nat->Option Lf}
theorem Pu.walk (h:Pu X W m s) (hq:s.q<4611686018427387904) (rt addr:Int) (a0:0<=addr) (a1:addr<18446744073709551616) (x u f:Bool) {r:WR} (hr:Path m.has s.M rt addr x u f r) :
 Calls Tryz.prog 36 #[pp m.rb,.int .i64 rt,.int .u64 addr,.agg #[.bool x,.bool u,.bool f]] W fun e w'=>e=.returned r.val/\Pu X w' m { s with M:=r.M,q:=s.q+8 }/\Kx X W w':=by
 obtain ⟨K,Z,S,pk⟩:=h
 have so:=pk.so
 refine (walk_path (K0:=K) ⟨pk.ram.ram,S,pk.ram.ok,pk.ram.sub⟩ pk.tab (pk.x 0 pk.x0).1 (by unfold maxLen;omega) (fun k hk=>by have:=so.hb k hk;have:=so.F1;omega) rt addr a0 a1 x u f hr).mono ?_
 rintro e w' ⟨he,hR,hk,_⟩
 exact ⟨he,pk.ramN hR.1 hk⟩
theorem Pu.walk_ok (h:Pu X W m s) (hq:s.q<4611686018427387904) (H:PW s.M root tab lf) (hh: ∀ l y g,tab l y=some g->m.has (g:Int)=true) {addr:Int} (a0:0<=addr) (a1:addr<140737488355328) {p:Nat} (hp:p<34359738368) (ha:addr / 4096=(p:Int)) {v:Lf} (hl:lf p=some v) (x u f:Bool) (hm:mayV v.w v.u v.x x u f=true) :
 ∃ (d:Bool) (N:Int->Int),(x=true->d=true)/\PW N root tab lf/\(∀ t:Int,(∀ l y (g:Nat),tab l y=some g-> ¬ ((g:Int)*4096<=t/\t<(g:Int)*4096+4096))->N t=s.M t)/\ ∀ (X:Nat->Prop) (W:World),Pu X W m s->Calls Tryz.prog 36 #[pp m.rb,.int .i64 root,.int .u64 addr,.agg #[.bool x,.bool u,.bool f]] W fun e w'=>e=.returned (okV v.f v.w v.u v.x false false d)/\Pu X w' m { s with M:=N,q:=s.q+8 }/\Kx X W w':=by
 have so:=h.so
 obtain ⟨d,N,r,pa,e1,e2,e3,e4,e5,e6,e7⟩:=walk_yes H h.byte (has:=m.has) (fun l y g e=>⟨hh l y g e,fun P P0 P1=>by
  have b:=so.hb _ (hh l y g e)
  have:=so.F1
  exact chk8 (hh l y g e) b.1 (by omega) P0 P1⟩) (addr:=addr) (by
  have:ext addr=addr:=by unfold ext;split <;> omega
  rw [this];simp) hp ha hl x u f hm
 refine ⟨d,N,e2,e5,e7,fun X W h=>(h.walk hq root addr a0 (by omega) x u f pa).mono ?_⟩
 rintro e w' ⟨he,h1,h2⟩
 rw [e1] at he
 rw [e3] at h1
 exact ⟨he,h1,h2⟩
theorem Pu.storeN (h:Pu X W m s) (hq:s.q<4611686018427387904) (a n x:Int) (a0:0<=a) (a1:a<18446744073709551616) (hc:chkG m.has a n=0) (x0:0<=x) (x1:x<18446744073709551616) :
 Calls Tryz.prog 39 #[pp m.rb,.int .u64 a,.int .i64 n,.int .u64 x] W fun e w'=>e=.returned (.int .i64 0)/\Pu X w' m { s with M:=mset s.M a n x,q:=s.q+2 }/\Kx X W w':=by
 obtain ⟨K,Z,S,h⟩:=h
 refine (store_K h.ram.ram (by unfold maxLen;omega) a n x a0 a1 hc x0 x1).mono ?_
 rintro e w' ⟨he,hr,hk⟩
 exact ⟨he,h.ramN hr hk⟩
theorem Pu.loadN (h:Pu X W m s) (a n:Int) (a0:0<=a) (a1:a<18446744073709551616) (hc:chkG m.has a n=0) :
 Calls Tryz.prog 40 #[pp m.rb,.int .u64 a,.int .i64 n] W fun e w'=>e=.returned (.tuple #[.int .u64 (ld s.M a n.toNat),.int .i64 0])/\W.grownBy w' none :=
 load_okG h.isRam a n (ld s.M a n.toNat) a0 a1 hc rfl
end
end Go.Proofs.YtgbdnnkkcpkhdaaGreatDoor.Tt
namespace Go.Proofs.YtgbdnnkkcpkhdaaGreatDoor.Sp
open Go.Proofs.YtgbdnnkkcpkhdaaGreatDoor.Tt
def Lns (T:Nat->Tl.Ln) (S:Pc.Tg) (a:Sr):Prop:= ∀ i,(T i).v=true-> ∃ (t:Int) (p:Nat) (v:Lf) (d:Bool),S.T a.id=some t/\a.lf p=some v/\T i=⟨true,t,p,v.f,v.w,v.u,v.x,false,d⟩
structure IsCpu (Y:Nat->Prop) (W:World) (cb mb:Nat):Prop where
 y:Y cb
 n0:cb≠0
 is: ∃ lp n c,Blk W cb [pp mb,.slice lp n c] 39/\n<=c/\ ∀ i,i<n-> ∃ b o x,lp=some ⟨b,o,none⟩/\Y b/\b≠cb/\W.cell? ⟨b,o+i,none⟩=some (.int .i64 x)
theorem IsCpu.kept {Y:Nat->Prop} {W W':World} {cb mb:Nat} (h:IsCpu Y W cb mb) (k:Kx Y W W'):IsCpu Y W' cb mb:=by
 obtain ⟨h1,h2,lp,n,c,h3,h4,h5⟩:=h
 refine ⟨h1,h2,lp,n,c,h3.kx k h1,h4,fun i hi=> ?_⟩
 obtain ⟨b,o,x,e1,e2,e3,e4⟩:=h5 i hi
 exact ⟨b,o,x,e1,e2,e3,(World.cell?_of_block (w:=W) (a:=⟨b,o+i,none⟩) (k.block b e2)).trans e4⟩
structure Cw (Y:Nat->Prop) (O:Nat->Nat) (n:Nat) (W:World) (cb:Nat) (M:Mb) (m:Pm) (s:Ps) (T:Nat->Tl.Ln) (S:Pc.Tg) (a:Sr) (J R:Nat):Prop where
 mc:Mc Y O n W M m s T S [a]
 cpu:IsCpu Y W cb M.mb
 id:a.id=1
 rg:a.L=[⟨0,2,true,true,false,0⟩]/\ ∀ b,2<=b->a.lf b=none
 gd:Pc.Good S
 ln:Lns T S a
 n:n<=J
 g:S.gen<=J
 q:s.q<=10000+10*J
 l:a.ln<=J
 nu: ∃ (ro u:Int) (fr:Nat),Nums m s a.k ro u fr/\(4*R:Nat)<=ro/\10+4*R<=fr
structure Dt (m:Pm) (s:Ps) (a:Sr) (p f:Nat) (B:Int->Int):Prop where
 lf:a.lf p=some ⟨f,true,true,false⟩
 b: ∀ o,0<=o->o<4096->s.M ((f:Int)*4096+o)=B o
section
variable {Y:Nat->Prop} {O:Nat->Nat} {n:Nat} {W w':World} {cb:Nat} {M:Mb} {m:Pm} {s:Ps} {T:Nat->Tl.Ln} {S:Pc.Tg} {a:Sr} {J R:Nat}
theorem Cw.le (h:Cw Y O n W cb M m s T S a J R) {J':Nat} (k:J<=J'):Cw Y O n W cb M m s T S a J' R :=
 ⟨h.mc,h.cpu,h.id,h.rg,h.gd,h.ln,Nat.le_trans h.n k,by have:=h.g;omega,by have:=h.q;omega,Nat.le_trans h.l k,h.nu⟩
theorem Cw.below (h:Cw Y O n W cb M m s T S a J R) (b:bc W w'):Cw Y O n w' cb M m s T S a J R :=
 ⟨h.mc.below b,h.cpu.kept (kept_of_below b fun j hj=>h.mc.pu.lt j (Or.inl hj)),h.id,h.rg,h.gd,h.ln,h.n,h.g,h.q,h.l,h.nu⟩
theorem Cw.grow (h:Cw Y O n W cb M m s T S a J R) (b:bc W w'):Cw (fun j=>Y j\/(W.heap.size<=j/\j<w'.heap.size)) O n w' cb M m s T S a J R:=by
 have c:=(h.below b).cpu
 obtain ⟨c1,c2,lp,k,cc,c3,c4,c5⟩:=c
 refine ⟨h.mc.grow b,⟨Or.inl c1,c2,lp,k,cc,c3,c4,fun i hi=> ?_⟩,h.id,h.rg,h.gd,h.ln,h.n,h.g,h.q,h.l,h.nu⟩
 obtain ⟨d,o,x,e1,e2,e3⟩:=c5 i hi
 exact ⟨d,o,x,e1,Or.inl e2,e3⟩
theorem Cw.less (h:Cw Y O n W cb M m s T S a J R) {Y':Nat->Prop} (y: ∀ j,Y' j->Y j) (y0:Y' 0) (c:IsCpu Y' W cb M.mb):Cw Y' O n W cb M m s T S a J R :=
 ⟨h.mc.less y y0,c,h.id,h.rg,h.gd,h.ln,h.n,h.g,h.q,h.l,h.nu⟩
theorem Cw.kb (h:Cw Y O n W cb M m s T S a J R) (b:bc W w'):Kx Y W w':=kept_of_below b fun j hj=>h.mc.pu.lt j (Or.inl hj)
theorem lns_evict (h:Lns T S a) (i:Nat):Lns (Tl.evictT T i) S a:=fun j hj=>by
 unfold Tl.evictT at hj |-
 by_cases c:j=i
 . rw [if_pos c] at hj;exact absurd hj (by decide)
 . rw [if_neg c] at hj |-;exact h j hj
theorem lns_drop (h:Lns T S a) (f:Tl.Ln->Bool):Lns (Tl.dropT T f 16) S a:=fun j hj=>by
 unfold Tl.dropT at hj |-
 by_cases c:j<16
 . rw [if_pos c] at hj |-
   by_cases d:f (T j)=true
   . rw [if_pos d] at hj;exact absurd hj (by decide)
   . rw [if_neg d] at hj |-;exact h j hj
 . rw [if_neg c] at hj |-;exact h j hj
theorem Cw.evict (h:Cw Y O n W cb M m s T S a J R) (x y:Nat) (hx:x<8) (hy:y<2) :
 Calls Tryz.prog 29 (sf (pp M.tl) x y) W fun e w'=>e=.returned (.int .i64 0)/\Cw Y O n w' cb M m s (Tl.evictT T (2*x+y)) S a J R/\Kx Y W w':=by
 refine (Tl.evict_ok M.tl T x y hx hy W h.mc.tlb).mono ?_
 rintro e w' ⟨he,h1,h2⟩
 obtain ⟨q1,q2⟩:=h.mc.tlbN h1 h2
 exact ⟨he,⟨q1,h.cpu.kept q2,h.id,h.rg,h.gd,lns_evict h.ln _,h.n,h.g,h.q,h.l,h.nu⟩,q2⟩
theorem Cw.tag (h:Cw Y O n W cb M m s T S a J R) (hJ:J<900000) :
 Calls Tryz.prog 31 #[pp M.mb,.int .i64 1] W fun e w'=>e=.returned (.int .i64 (Pc.getV S 1))/\Cw Y O (n+1) w' cb M m s (tagT T (Pc.getB S 1)) (Pc.getS S 1) a (J+1) R/\Kx Y W w':=by
 have hn:=h.n
 have hg:=h.g
 have ok:=h.gd.ok
 refine (tag_ok h.mc 1 one_wf ok (by omega) (by omega)).mono ?_
 rintro e w' ⟨he,h1,h2⟩
 have g':=h.gd.get 1
 have L:Lns (tagT T (Pc.getB S 1)) (Pc.getS S 1) a/\(Pc.getS S 1).gen<=J+1:=by
  have dr:Lns (tagT T (Pc.getB S 1)) S a:=by
   unfold tagT
   split
   . exact lns_drop h.ln _
   . exact h.ln
  rcases Pc.get_cases S 1 with ⟨t,e1,e2,e3,e4⟩ | ⟨e1,e2,e3,e4,e5⟩ | ⟨e1,e2,e3,e4,e5⟩
  . rw [e4];exact ⟨dr,by omega⟩
  . refine ⟨fun i hi=> ?_,by rw [e5];show S.gen+1<=_;omega⟩
    obtain ⟨t,p,v,d,q,_⟩:=dr i hi
    rw [h.id,e1] at q;cases q
  . refine ⟨fun i hi=> ?_,by rw [e5];show S.gen<=_;omega⟩
    obtain ⟨t,p,v,d,q,_⟩:=dr i hi
    rw [h.id,e1] at q;cases q
 exact ⟨he,⟨h1,h.cpu.kept h2,h.id,h.rg,g',L.1,by omega,L.2,by have:=h.q;omega,by have:=h.l;omega,h.nu⟩,h2⟩
theorem tag_is (h:Pc.Good S):(0<=Pc.getV S 1/\Pc.getV S 1<4096)/\(Pc.getS S 1).T 1=some (Pc.getV S 1):=by
 obtain ⟨f1,_,f3,f4,_⟩:=Pc.get_facts h 1
 have:=h.ok.m1
 exact ⟨⟨by omega,by omega⟩,f1⟩
theorem Cw.find (h:Cw Y O n W cb M m s T S a J R) (t:Int) (p:Nat) :
 Calls Tryz.prog 32 (sf (pp M.tl) t p) W fun e w'=>e=.returned (.tuple #[(Tl.findT T t p).1.val,.bool (Tl.findT T t p).2])/\bc W w' :=
 Tl.find_any M.tl T t p W h.mc.tlb
theorem Cw.found (h:Cw Y O n W cb M m s T S a J R) {t:Int} (ht:S.T 1=some t) {p:Nat} (hz:(Tl.findT T t p).2=true): ∃ v d,a.lf p=some v/\(Tl.findT T t p).1=⟨true,t,p,v.f,v.w,v.u,v.x,false,d⟩:=by
 have ok: ∀ i,(T i).fits t p=true-> ∃ v d,a.lf p=some v/\T i=⟨true,t,p,v.f,v.w,v.u,v.x,false,d⟩:=fun i hf=>by
  unfold Tl.Ln.fits at hf
  simp only [Bool.and_eq_true,beq_iff_eq,Bool.or_eq_true] at hf
  obtain ⟨t',p',v,d,q1,q2,q3⟩:=h.ln i hf.1
  rw [h.id,ht] at q1
  cases q1
  rw [q3] at hf
  have:p'=p:=by have:=hf.2.1;simp only at this;omega
  subst this
  exact ⟨v,d,q2,q3⟩
 unfold Tl.findT at hz |-
 split at hz <;> rename_i c1
 . cases hz
 . rw [if_neg c1]
   split at hz <;> rename_i c2
   . rw [if_pos c2];exact ok _ c2
   . rw [if_neg c2]
     split at hz <;> rename_i c3
     . rw [if_pos c3];exact ok _ c3
     . cases hz
theorem Cw.fill (h:Cw Y O n W cb M m s T S a J R) {t:Int} (ht:S.T 1=some t) (t0:0<=t/\t<4096) {p:Nat} {v:Lf} (hv:a.lf p=some v) (v0:0<=v.f) (d:Bool) (y:Nat) (hy:y<2) :
 Calls Tryz.prog 37 #[pp M.tl,.int .i64 y,(⟨true,t,p,v.f,v.w,v.u,v.x,false,d⟩:Tl.Ln).val] W fun e w'=>e=.returned (.int .i64 0)/\Cw Y O n w' cb M m s (Tl.fillT T y ⟨true,t,p,v.f,v.w,v.u,v.x,false,d⟩) S a J R/\Kx Y W w':=by
 refine (Tl.fill_ok M.tl T ⟨true,t,p,v.f,v.w,v.u,v.x,false,d⟩ y (p % 8) hy (by simp [Tl.Ln.ok];omega) (by show (0:Int)<=p;omega) (by show (p:Int) % 8=_;omega) W h.mc.tlb).mono ?_
 rintro e w' ⟨he,h1,h2⟩
 obtain ⟨q1,q2⟩:=h.mc.tlbN h1 h2
 refine ⟨he,⟨q1,h.cpu.kept q2,h.id,h.rg,h.gd,fun i hi=> ?_,h.n,h.g,h.q,h.l,h.nu⟩,q2⟩
 unfold Tl.fillT at hi |-
 split at hi <;> rename_i c
 . rw [if_pos c];exact ⟨t,p,v,d,by rw [h.id];exact ht,hv,rfl⟩
 . rw [if_neg c];exact lns_drop h.ln _ i hi
end
theorem ld_at {M B:Int->Int} (t o:Int): ∀ n:Nat,(∀ i:Nat,i<n->M (t+o+i)=B (o+i))->ld M (t+o) n=ld B o n
 | 0, _ => rfl
 | n + 1, h => by
  show ld M (t+o) n+M (t+o+n)*256 ^ n=ld B o n+B (o+n)*256 ^ n
  rw [ld_at t o n fun i hi=>h i (by omega),h n (by omega)]
theorem fresh_le (P:List Nat) (p:Nat):fresh P p<=3:=by
 have f: ∀ l,frL l P p<=1:=fun l=>by unfold frL;split <;> omega
 have f1:=f 1
 have f2:=f 2
 have f3:=f 3
 unfold fresh
 omega
section
variable {Y:Nat->Prop} {O:Nat->Nat} {n:Nat} {W w':World} {cb:Nat} {M:Mb} {m:Pm} {s:Ps} {T:Nat->Tl.Ln} {S:Pc.Tg} {a:Sr} {J R:Nat}
theorem Cw.root (h:Cw Y O n W cb M m s T S a J R) :
 Calls Tryz.prog 30 #[pp M.mb,.int .i64 1] W (re (.tuple #[.int .i64 a.root,.bool true]) W):=by
 have lk:(Instr.lookup 60 (.map (some M.sm)) (.int .i64 1) false).run Tryz.prog W=.ok (.pointer (some ⟨a.sb,0,none⟩)) W:=by
  have q:=h.mc.map.look one_wf
  rw [<- h.id,spF_head] at q
  rw [<- h.id];exact q
 have c6:W.cell? ⟨M.mb,6,none⟩=some (.map (some M.sm)):=h.mc.mac.cell 6
 have c1:W.cell? ⟨a.sb,1,none⟩=some (.int .i64 a.root):=(h.mc.sp a (by simp)).blk.cell 1
 clear h
 go_enter Tryz.func30,Tryz.ntmps30
 go_wp2_with fail
 go_returns
 exact ⟨rfl,Below.refl _ _⟩
theorem Cw.fr (h:Cw Y O n W cb M m s T S a J R) {p:Nat} {f:Nat} (e:a.lf p=some ⟨f,true,true,false⟩):(m.has f=true/\f<1000000)/\ ∀ l x,a.tab l x≠some f:=by
 obtain ⟨h1,g,h2,h3,h4,h5⟩:=h.mc.dat a (by simp) p _ e
 have h2:(f:Int)=g:=h2
 have:g=f:=by omega
 subst this
 have so:=h.mc.pu.so
 have:=so.hb _ h1
 have:=so.F1
 exact ⟨⟨h1,by simp only at *;omega⟩,h5 a (by simp)⟩
theorem Cw.touch (h:Cw Y O n W cb M m s T S a J R) (hJ:J<900000) {p:Nat} (hp:p<2) {R':Nat} (hr:(a.lf p=none/\R=R'+1)\/((∃ f:Nat,a.lf p=some ⟨f,true,true,false⟩)/\R=R')) (x:Bool) :
 Calls Tryz.prog 59 #[pp M.mb,.int .i64 1,.int .i64 p,.agg (sn x true false)] W fun e w'=> ∃ (f:Nat) (s':Ps) (a':Sr),e=.returned (.tuple #[.int .i64 f,.int .i64 0,.int .i64 0])/\a'.lf p=some ⟨f,true,true,false⟩/\a'.root=a.root/\Cw Y O n w' cb M m s' T S a' (J+1) R'/\Kx Y W w'/\ ∀ f0 B,Dt m s a p f0 B->Dt m s' a' p f0 B:=by
 have fz:Re.findR a.L p=(⟨0,2,true,true,false,0⟩,true):=by
  rw [h.rg.1]
  rcases (show p=0\/p=1 by omega) with rfl | rfl <;> rfl
 have mv:mayV true true false x true false=true:=by cases x <;> rfl
 have wi:(Lit.int .i64 a.id).wf=true:=by rw [h.id];exact one_wf
 have mc:=h.mc
 rcases hr with ⟨e0,rfl⟩ | ⟨⟨f,e0⟩,rfl⟩
 . obtain ⟨ro,u,fr,N,n1,n2⟩:=h.nu
   have fl:=fresh_le (pgs a.lf) p
   have q:=touch_new mc p (by omega) x true false 0 2 0 true true false wi e0 fz mv N (by omega) (by omega) (by have:=h.q;omega) (by have:=h.l;omega)
   rw [h.id] at q
   refine q.mono ?_
   rintro e w' ⟨f,he,s',tab',h1,h2,h3,h4,h5⟩
   refine ⟨f,s',{ a with tab:=tab',lf:=(lfSet a.lf p (some ⟨(f:Nat),true,true,false⟩)),ln:=a.ln+1,lt:=Pc.setF a.lt p (some 0) },he,?_,rfl,⟨h1,h.cpu.kept h5,h.id,⟨h.rg.1,fun b hb=>(if_neg (by omega)).trans (h.rg.2 b hb)⟩,h.gd,fun i hi=> ?_,by have:=h.n;omega,by have:=h.g;omega,by have:=h.q;omega,by have:=h.l;show a.ln+1<=_;omega,⟨_,_,_,h2,by omega,by omega⟩⟩,h5,fun f0 B d=> ?_⟩
   . show lfSet a.lf p _ p=_
     simp [lfSet]
   . obtain ⟨t,p',v,d,q1,q2,q3⟩:=h.ln i hi
     refine ⟨t,p',v,d,q1,?_,q3⟩
     show lfSet a.lf p _ p'=_
     unfold lfSet
     rw [if_neg (by intro c;rw [c,e0] at q2;cases q2)];exact q2
   . have:=d.lf
     rw [e0] at this;cases this
 . have q:=touch_there mc p x true false 0 2 0 f true true false true true false wi (by rw [e0];rfl) fz mv
   rw [h.id] at q
   refine q.mono ?_
   rintro e w' ⟨he,hb⟩
   exact ⟨f,s,a,he,e0,rfl,(h.below hb).le (by omega),h.kb hb,fun _ _ d=>d⟩
theorem Cw.next (h:Cw Y O n W cb M m s T S a J R) {N:Int->Int} {k:Nat} (hk:Kx (fun j=>Y j\/O j≠0) W w') (hp:Pu (fun j=>Y j\/O j≠0) w' m { s with M:=N,q:=s.q+k }) (k1:k<=10) (pw:PW N a.root a.tab a.lf):Cw Y O n w' cb M m { s with M:=N,q:=s.q+k } T S a (J+1) R/\Kx Y W w':=by
 have ma:a∈[a]:=by simp
 have r:=h.mc.rt a ma
 have k2:Kx Y W w':=hk.sub fun j hj=>Or.inl hj
 obtain ⟨ro,u,fr,N1,n1,n2⟩:=h.nu
 refine ⟨⟨h.mc.next hk hp (fun b hb=> ?_) h.mc.dat,h.cpu.kept k2,h.id,h.rg,h.gd,h.ln,by have:=h.n;omega,by have:=h.g;omega,by have:=h.q;show s.q+k<=_;omega,by have:=h.l;omega,⟨ro,u,fr,⟨N1.1,N1.2,N1.3,N1.4,N1.5⟩,n1,n2⟩⟩,k2⟩
 obtain rfl:b=a:=by simpa using hb
 exact ⟨pw,r.fu,r.ow⟩
theorem Cw.walk (h:Cw Y O n W cb M m s T S a J R) (hJ:J<900000) {p f:Nat} (hp:p<34359738368) (hl:a.lf p=some ⟨f,true,true,false⟩) {addr:Int} (a0:0<=addr) (a1:addr<140737488355328) (ha:addr / 4096=(p:Int)) (x:Bool) :
 ∃ (d:Bool) (s':Ps),(x=true->d=true)/\(∀ B,Dt m s a p f B->Dt m s' a p f B)/\ ∀ (Y:Nat->Prop) (W:World),Cw Y O n W cb M m s T S a J R->Calls Tryz.prog 36 #[pp m.rb,.int .i64 a.root,.int .u64 addr,.agg (sn x true false)] W fun e w'=>e=.returned (okV f true true false false false d)/\Cw Y O n w' cb M m s' T S a (J+1) R/\Kx Y W w':=by
 have r:=h.mc.rt a (by simp)
 obtain ⟨_,nf⟩:=h.fr hl
 obtain ⟨d,N,hd,hw,hb,hc⟩:=h.mc.pu.walk_ok (by have:=h.q;omega) r.pw (fun l y g e=>(r.ow l y g e).1) a0 a1 hp ha hl x true false (by cases x <;> rfl)
 refine ⟨d,{ s with M:=N,q:=s.q+8 },hd,fun B D=>⟨hl,fun o o0 o1=> ?_⟩,fun Y W h=>(hc _ W h.mc.pu).mono ?_⟩
 . rw [<- D.b o o0 o1]
   refine hb _ fun l y g e c=>nf l y ?_
   rw [e];congr 1;omega
 . rintro e w' ⟨he,h1,h2⟩
   obtain ⟨q1,q2⟩:=h.next h2 h1 (by omega) hw
   exact ⟨he,q1,q2⟩
theorem chk_in (h:Cw Y O n W cb M m s T S a J R) {p f:Nat} (hl:a.lf p=some ⟨f,true,true,false⟩) {o z:Int} (hz:z=1\/z=2\/z=4\/z=8) (o0:0<=o) (o1:o+z<=4096):chkG m.has ((f:Int)*4096+o) z=0:=by
 obtain ⟨⟨h1,h2⟩,_⟩:=h.fr hl
 unfold chkG
 rw [if_pos hz,if_pos]
 refine ⟨by omega,?_,?_⟩
 . rw [show ((f:Int)*4096+o) / 4096=f by omega];exact h1
 . rw [show ((f:Int)*4096+o+z-1) / 4096=f by omega];exact h1
theorem Cw.store (h:Cw Y O n W cb M m s T S a J R) (hJ:J<900000) {p f:Nat} {B:Int->Int} (D:Dt m s a p f B) {o z v:Int} (hz:z=1\/z=2\/z=4\/z=8) (o0:0<=o) (o1:o+z<=4096) (v0:0<=v) (v1:v<18446744073709551616) :
 Calls Tryz.prog 39 #[pp m.rb,.int .u64 ((f:Int)*4096+o),.int .i64 z,.int .u64 v] W fun e w'=> ∃ s':Ps,e=.returned (.int .i64 0)/\Cw Y O n w' cb M m s' T S a (J+1) R/\Kx Y W w'/\Dt m s' a p f (mset B o z v):=by
 obtain ⟨⟨f1,f2⟩,nf⟩:=h.fr D.lf
 refine (h.mc.pu.storeN (by have:=h.q;omega) _ z v (by omega) (by omega) (chk_in h D.lf hz o0 o1) v0 v1).mono ?_
 rintro e w' ⟨he,h1,h2⟩
 obtain ⟨q1,q2⟩:=h.next h2 h1 (by omega) ((h.mc.rt a (by simp)).pw.keep fun l x g e i hi=>by
  have ne:g≠f:=fun c=>nf l x (by rw [e,c])
  exact ld_mset_apart s.M (by omega))
 refine ⟨_,he,q1,q2,D.lf,fun t t0 t1=> ?_⟩
 show mset s.M _ z v _=_
 unfold mset
 by_cases c:o<=t/\t<o+z
 . rw [if_pos (by omega),if_pos c,show (f:Int)*4096+t-(f*4096+o)=t-o by omega]
 . rw [if_neg (by omega),if_neg c];exact D.b t t0 t1
theorem Cw.load (h:Cw Y O n W cb M m s T S a J R) {p f:Nat} {B:Int->Int} (D:Dt m s a p f B) {o z:Int} (hz:z=1\/z=2\/z=4\/z=8) (o0:0<=o) (o1:o+z<=4096) :
 Calls Tryz.prog 40 #[pp m.rb,.int .u64 ((f:Int)*4096+o),.int .i64 z] W (re (.tuple #[.int .u64 (ld B o z.toNat),.int .i64 0]) W):=by
 obtain ⟨⟨f1,f2⟩,nf⟩:=h.fr D.lf
 refine (h.mc.pu.loadN _ z (by omega) (by omega) (chk_in h D.lf hz o0 o1)).mono ?_
 rintro e w' ⟨he,hg⟩
 rw [ld_at (f*4096) o z.toNat fun i hi=>by rw [show (f:Int)*4096+o+i=f*4096+(o+i) by omega];exact D.b _ (by omega) (by omega)] at he
 exact ⟨he,hg.os,hg.tape,hg.output,hg.size,fun j hj=>hg.block j hj (by simp)⟩
end
abbrev nm (A z:Int):Value:=.agg (sf1 1 A z)
theorem npage_any (A z:Int) (p:Nat) (a0:0<=A) (hp:A / 4096=p) (p1:p<34359738368) (w:World):Calls Tryz.prog 33 #[nm A z] w (re (.int .i64 p) w):=by
 have e:IntKind.i64.wrap (IntKind.u64.wrap (A / 4096))=p:=by simp only [IntKind.wrap_i64,IntKind.wrap_u64];omega
 have e2:IntKind.i64.wrap (A / 4096)=p:=kz
 go_enter Tryz.func33,Tryz.ntmps33
 go_wp2_with fail
 go_returns
 exact ⟨rfl,baa⟩
theorem insist_ok (w:World):Calls Tryz.prog 38 #[.int .i64 0] w (re (.tuple #[]) w):=by
 go_enter Tryz.func38,Tryz.ntmps38
 go_wp2_with fail
 go_returns
 exact ⟨rfl,Below.refl _ _⟩
theorem form_ok (A z:Int) (hz:z=1\/z=2\/z=4\/z=8) (a0:0<=A) (a1:A<140737488355328) (hd:A % z=0) (w:World):Calls Tryz.prog 16 #[nm A z] w (re (.bool true) w):=by
 have d1:decide (A<140737488355328)=true:=kh
 have d2:(A % z==0)=true:=by rw [hd];rfl
 rcases hz with rfl | rfl | rfl | rfl
 all_goals
  go_enter Tryz.func16,Tryz.ntmps16
  go_wp2_with fail
  go_returns
  exact ⟨rfl,baa⟩
section
variable {Y:Nat->Prop} {O:Nat->Nat} {n:Nat} {W w':World} {cb:Nat} {M:Mb} {m:Pm} {s:Ps} {T:Nat->Tl.Ln} {S:Pc.Tg} {a:Sr} {J R:Nat}
theorem Cw.cs (h:Cw Y O n W cb M m s T S a J R):W.cell? ⟨cb,0,none⟩=some (pp M.mb)/\W.cell? ⟨M.mb,0,none⟩=some (pp m.rb)/\W.cell? ⟨M.mb,3,none⟩=some (pp M.tl):=by
 obtain ⟨lp,k,c,hb,_⟩:=h.cpu.is
 exact ⟨hb.cell 0,h.mc.mac.cell 0,h.mc.mac.cell 3⟩
abbrev nbl (A z:Int):List Value:=[.int .i64 1,.int .u64 A,.int .i64 z]
abbrev abl (x:Bool):List Value:=(sk x true false)
abbrev av (x:Bool):Value:=.agg (sn x true false)
def Tch (Y:Nat->Prop) (O:Nat->Nat) (n:Nat) (W:World) (cb:Nat) (M:Mb) (m:Pm) (s:Ps) (T:Nat->Tl.Ln) (S:Pc.Tg) (a:Sr) (J R:Nat) (p:Nat) (w':World):Prop :=
 ∃ (f:Nat) (s':Ps) (a':Sr),a'.lf p=some ⟨f,true,true,false⟩/\a'.root=a.root/\Cw Y O n w' cb M m s' T S a' (J+1) R/\Kx Y W w'/\ ∀ f0 B,Dt m s a p f0 B->Dt m s' a' p f0 B
theorem two_blk (W:World) (C D:List Value) (s t:TypeId):bc W ((W.alloc (.cells C.toArray s)).alloc (.cells D.toArray t))/\Blk ((W.alloc (.cells C.toArray s)).alloc (.cells D.toArray t)) W.heap.size C s/\Blk ((W.alloc (.cells C.toArray s)).alloc (.cells D.toArray t)) (W.heap.size+1) D t/\((W.alloc (.cells C.toArray s)).alloc (.cells D.toArray t)).heap.size=W.heap.size+2:=by
 refine ⟨below_then baa baa,(Blk.made W C _).below baa,?_,by rw [World.size_alloc,World.size_alloc]⟩
 have q:=Blk.made (W.alloc (.cells C.toArray s)) D t
 rw [World.size_alloc] at q
 exact q
theorem Cw.ctouch (h:Cw Y O n W cb M m s T S a J R) (hJ:J<900000) {p:Nat} (hp:p<2) {R':Nat} (hr:(a.lf p=none/\R=R'+1)\/((∃ f:Nat,a.lf p=some ⟨f,true,true,false⟩)/\R=R')) (x:Bool) (A z:Int) (a0:0<=A) (ha:A / 4096=p) :
 Calls Tryz.prog 35 #[pp cb,nm A z,av x] W fun e w'=>e=.returned (.tuple #[])/\Tch Y O n W cb M m s T S a J R' p w':=by
 have PC:Hid (∀ w:World,_):=fun w=>npage_any A z p a0 ha (by omega) w
 have IC:Hid (∀ w:World,_):=fun w=>insist_ok w
 have HC:Hid (Cw Y O n W cb M m s T S a J R):=h
 have B2:Hid _:=two_blk W (nbl A z) (abl x) 80 84
 have TC:Hid (∀ (w:World),Cw (fun j=>Y j\/(W.heap.size<=j/\j<W.heap.size+2)) O n w cb M m s T S a J R->_):=fun w hw=>hw.touch hJ hp hr x
 clear h hp hr hJ
 go_enter Tryz.func35,Tryz.ntmps35
 go_upto_region 1 with fail
 have G0:Hid (Cw (fun j=>Y j\/(W.heap.size<=j/\j<W.heap.size+2)) O n ((W.alloc (.cells (sf1 1 A z) 80)).alloc (.cells (sn x true false) 84)) cb M m s T S a J R/\Blk ((W.alloc (.cells (sf1 1 A z) 80)).alloc (.cells (sn x true false) 84)) W.heap.size (nbl A z) 80/\Blk ((W.alloc (.cells (sf1 1 A z) 80)).alloc (.cells (sn x true false) 84)) (W.heap.size+1) (abl x) 84/\Kx Y W ((W.alloc (.cells (sf1 1 A z) 80)).alloc (.cells (sn x true false) 84))):=by
  obtain ⟨b1,b2,b3,b4⟩:=B2.out
  have q:=HC.out.grow b1
  rw [b4] at q
  exact ⟨q,b2,b3,HC.out.kb b1⟩
 generalize (W.alloc (.cells (sf1 1 A z) 80)).alloc (.cells (sn x true false) 84)=W0 at G0 |-
 obtain ⟨q,hq⟩: ∃ q,q=W.heap.size:=⟨_,rfl⟩
 obtain ⟨r,hr⟩: ∃ r,r=W.heap.size+1:=⟨_,rfl⟩
 have G1:Hid (Blk W0 q (nbl A z) 80/\Blk W0 r (abl x) 84/\q=W.heap.size/\r=W.heap.size+1):=by rw [hq,hr];exact ⟨G0.out.2.1,G0.out.2.2.1,rfl,rfl⟩
 rw [<- hr]
 rw [<- hq]
 clear hq hr B2
 refine hda (fun cw=>cw.cell? ⟨cb,0,none⟩=some (pp M.mb)/\Blk cw q (nbl A z) 80/\Blk cw r (abl x) 84) (⟨G0.out.1.cs.1,G1.out.1,G1.out.2.1⟩) fun hHeld=> ?_
 have U0:Hid (Cw (fun j=>Y j\/(W.heap.size<=j/\j<W.heap.size+2)) O n W0.drew cb M m s T S a J R/\Kx Y W W0.drew):=⟨G0.out.1.below (below_drew (Below.refl _ _)),G0.out.2.2.2.trans ⟨rfl,rfl,rfl,Nat.le_refl _,fun _ _=>rfl⟩⟩
 clear G0
 generalize W0.drew=U at hHeld U0 |-
 refine tma 0 10 rfl ?_
 refine tma 1 11 rfl ?_
 refine tma 2 12 rfl ?_
 refine tla 3 13 (pp M.mb) rfl ?_ ?_
 . intro w hSw;(try dsimp only at hSw);have r0:=hSw.1;(try go_simp);(try simp [*])
 refine tma 4 14 rfl ?_
 refine tla 5 15 (.int .i64 1) rfl ?_ ?_
 . intro w hSw;(try dsimp only at hSw);have r0:=Blk.cell hSw.2.1 0;(try go_simp);(try simp [*])
 refine tla 6 16 (nm A z) rfl ?_ ?_
 . intro w hSw;(try dsimp only at hSw);have r0:=Blk.cell hSw.2.1 0;have r1:=Blk.cell hSw.2.1 1;have r2:=Blk.cell hSw.2.1 2;(try go_simp);(try simp [*])
 refine tla 8 18 (av x) rfl ?_ ?_
 . exact k5
 refine rda 7 ⟨some 17,_,_,_,_,none⟩ rfl fun K hK=> ?_
 go_simp
 go_wp2_with (go_at_call 33;refine Calls.mono (PC.out _) ?_;rintro e u1 ⟨rfl,hb1⟩)
 have U1:Hid (Cw (fun j=>Y j\/(W.heap.size<=j/\j<W.heap.size+2)) O n u1 cb M m s T S a J R/\Kx Y W u1):=⟨U0.out.1.below hb1,U0.out.2.trans (U0.out.1.kb hb1 |>.sub fun j hj=>Or.inl hj)⟩
 refine hK.out _ _ ⟨U1.out.1.cs.1,hHeld.2.1.below hb1,hHeld.2.2.below hb1⟩ ?_
 clear hK K hHeld hb1 U0
 intro hHeld
 try simp only [Act.put,zaa,zba,zca]
 refine rda 9 ⟨some 19,_,_,_,_,none⟩ rfl fun K hK=> ?_
 go_simp
 go_wp2_with (go_at_call 59;refine Calls.mono (TC.out _ U1.out.1) ?_;rintro e u2 ⟨f,s',a',rfl,h1,h2,h3,h4,h5⟩)
 have U2:Hid (Tch Y O n W cb M m s T S a J R' p u2):=by
  have k2:Kx Y W u2:=U1.out.2.trans (h4.sub fun j hj=>Or.inl hj)
  exact ⟨f,s',a',h1,h2,h3.less (fun j hj=>Or.inl hj) HC.out.mc.y0 (HC.out.cpu.kept k2),k2,h5⟩
 refine hK.out _ _ ⟨h3.cs.1,hHeld.2.1.kx h4 (Or.inr (by have:=G1.out.2.2;omega)),hHeld.2.2.kx h4 (Or.inr (by have:=G1.out.2.2;omega))⟩ ?_
 clear hK K hHeld U1 h1 h2 h3 h4 h5 TC
 intro hHeld
 try simp only [Act.put,zaa,zba,zca]
 refine tma 10 9 rfl ?_
 refine tma 11 20 rfl ?_
 refine tma 12 21 rfl ?_
 refine tma 13 22 rfl ?_
 refine tma 14 6 rfl ?_
 refine tma 15 7 rfl ?_
 refine tma 16 8 rfl ?_
 clear hHeld G1
 refine wpAnyH_done ka ?_ _
 refine NoPanic.normal ?_
 go_wp2_with fail
 refine Calls.mono (IC.out _) ?_
 rintro e w3 ⟨rfl,hb3⟩
 have HE:Hid (Tch Y O n W cb M m s T S a J R' p w3):=by
  obtain ⟨f,s',a',h1,h2,h3,h4,h5⟩:=U2.out
  exact ⟨f,s',a',h1,h2,h3.below hb3,h4.trans (h3.kb hb3),h5⟩
 clear hb3 U2
 go_wp2_with fail
 go_returns
 exact ⟨rfl,HE.out⟩
end
section
variable {Y:Nat->Prop} {O:Nat->Nat} {n:Nat} {W w':World} {cb:Nat} {M:Mb} {m:Pm} {s:Ps} {T:Nat->Tl.Ln} {S:Pc.Tg} {a:Sr} {J R:Nat}
theorem Cw.box (h:Cw Y O n W cb M m s T S a J R) (C:List Value) (t:TypeId):Cw (fun j=>Y j\/(W.heap.size<=j/\j<W.heap.size+1)) O n (W.alloc (.cells C.toArray t)) cb M m s T S a J R/\Blk (W.alloc (.cells C.toArray t)) W.heap.size C t/\Kx Y W (W.alloc (.cells C.toArray t))/\(W.alloc (.cells C.toArray t)).heap.size=W.heap.size+1:=by
 have b:bc W (W.alloc (.cells C.toArray t)):=baa
 have q:=h.grow b
 rw [World.size_alloc] at q
 exact ⟨q,Blk.made _ _ _,h.kb b,World.size_alloc _ _⟩
theorem Cw.mstore (h:Cw Y O n W cb M m s T S a J R) (hJ:J<900000) {p f:Nat} {B:Int->Int} (D:Dt m s a p f B) {A z v:Int} (a0:0<=A) (hz:z=1\/z=2\/z=4\/z=8) (o1:A % 4096+z<=4096) (v0:0<=v) (v1:v<18446744073709551616) :
 Calls Tryz.prog 19 #[pp cb,nm A z,.int .i64 f,.bool true,.int .u64 v] W fun e w'=> ∃ s':Ps,e=.returned (.int .u64 0)/\Cw Y O n w' cb M m s' T S a (J+1) R/\Kx Y W w'/\Dt m s' a p f (mset B (A % 4096) z v):=by
 obtain ⟨⟨f1,f2⟩,_⟩:=h.fr D.lf
 have e1:IntKind.u64.wrap (f:Int)=f:=kg
 have e2:IntKind.u64.wrap ((f:Int)*4096)=f*4096:=kg
 have e3:IntKind.u64.wrap ((f:Int)*4096+A % 4096)=f*4096+A % 4096:=kg
 have IC:Hid (∀ w:World,_):=fun w=>insist_ok w
 have HC:Hid (Cw Y O n W cb M m s T S a J R):=h
 have BX:Hid _:=h.box (nbl A z) 80
 have SC:Hid (∀ (w:World),Cw (fun j=>Y j\/(W.heap.size<=j/\j<W.heap.size+1)) O n w cb M m s T S a J R->_):=fun w hw=>hw.store hJ D hz (o:=A % 4096) (by omega) o1 v0 v1
 clear h D hz o1 v0 v1 f1 f2 hJ
 go_enter Tryz.func19,Tryz.ntmps19
 go_upto_region 1 with fail
 have G0:Hid (Cw (fun j=>Y j\/(W.heap.size<=j/\j<W.heap.size+1)) O n (W.alloc (.cells (sf1 1 A z) 80)) cb M m s T S a J R/\Blk (W.alloc (.cells (sf1 1 A z) 80)) W.heap.size (nbl A z) 80/\Kx Y W (W.alloc (.cells (sf1 1 A z) 80))):=⟨BX.out.1,BX.out.2.1,BX.out.2.2.1⟩
 clear BX
 generalize W.alloc (.cells (sf1 1 A z) 80)=W0 at G0 |-
 obtain ⟨q,hq⟩: ∃ q,q=W.heap.size:=⟨_,rfl⟩
 have G1:Hid (Blk W0 q (nbl A z) 80/\q=W.heap.size):=by rw [hq];exact ⟨G0.out.2.1,rfl⟩
 rw [<- hq]
 clear hq
 have x1:W0.cell? ⟨q,1,none⟩=some (.int .u64 A):=G1.out.1.cell 1
 go_upto_region 3 with fail
 clear x1
 refine hda (fun cw=>cw.cell? ⟨cb,0,none⟩=some (pp M.mb)/\cw.cell? ⟨M.mb,0,none⟩=some (pp m.rb)/\Blk cw q (nbl A z) 80) (⟨G0.out.1.cs.1,G0.out.1.cs.2.1,G1.out.1⟩) fun hHeld=> ?_
 have U0:Hid (Cw (fun j=>Y j\/(W.heap.size<=j/\j<W.heap.size+1)) O n W0.drew cb M m s T S a J R/\Kx Y W W0.drew):=⟨G0.out.1.below (below_drew (Below.refl _ _)),G0.out.2.2.trans ⟨rfl,rfl,rfl,Nat.le_refl _,fun _ _=>rfl⟩⟩
 clear G0
 generalize W0.drew=U at hHeld U0 |-
 refine tma 0 22 rfl ?_
 refine tma 1 23 rfl ?_
 refine tma 2 24 rfl ?_
 refine tla 3 25 (pp M.mb) rfl ?_ ?_
 . intro w hSw;(try dsimp only at hSw);have r0:=hSw.1;(try go_simp);(try simp [*])
 refine tma 4 26 rfl ?_
 refine tma 5 27 rfl ?_
 refine tla 6 28 (pp m.rb) rfl ?_ ?_
 . intro w hSw;(try dsimp only at hSw);have r0:=hSw.2.1;(try go_simp);(try simp [*])
 refine tma 7 29 rfl ?_
 refine tma 8 30 rfl ?_
 refine tla 9 31 (.int .i64 z) rfl ?_ ?_
 . intro w hSw;(try dsimp only at hSw);have r0:=Blk.cell hSw.2.2 2;(try go_simp);(try simp [*])
 refine tma 10 32 rfl ?_
 refine rda 11 ⟨some 33,_,_,_,_,none⟩ rfl fun K hK=> ?_
 go_simp
 go_wp2_with (go_at_call 39;refine Calls.mono (SC.out _ U0.out.1) ?_;rintro e u1 ⟨s',rfl,h1,h2,h3⟩)
 have U1:Hid (Cw (fun j=>Y j\/(W.heap.size<=j/\j<W.heap.size+1)) O n u1 cb M m s' T S a (J+1) R/\Kx Y W u1/\Dt m s' a p f (mset B (A % 4096) z v)):=⟨h1,U0.out.2.trans (h2.sub fun j hj=>Or.inl hj),h3⟩
 refine hK.out _ _ ⟨h1.cs.1,h1.cs.2.1,hHeld.2.2.kx h2 (Or.inr (by have:=G1.out.2;omega))⟩ ?_
 clear hK K hHeld h1 h2 h3 U0 SC
 intro hHeld
 try simp only [Act.put,zaa,zba,zca]
 refine rda 12 ⟨some 34,_,_,_,_,none⟩ rfl fun K hK=> ?_
 go_simp
 go_wp2_with (go_at_call 38;refine Calls.mono (IC.out _) ?_;rintro e u2 ⟨rfl,hb2⟩)
 have U2:Hid (Cw (fun j=>Y j\/(W.heap.size<=j/\j<W.heap.size+1)) O n u2 cb M m s' T S a (J+1) R/\Kx Y W u2/\Dt m s' a p f (mset B (A % 4096) z v)):=⟨U1.out.1.below hb2,U1.out.2.1.trans ((U1.out.1.kb hb2).sub fun j hj=>Or.inl hj),U1.out.2.2⟩
 refine hK.out _ _ ⟨U2.out.1.cs.1,U2.out.1.cs.2.1,hHeld.2.2.below hb2⟩ ?_
 clear hK K hHeld hb2 U1
 intro hHeld
 try simp only [Act.put,zaa,zba,zca]
 clear hHeld G1
 refine wpAnyH_done ka ?_ _
 refine NoPanic.normal ?_
 have HE:Hid (Cw Y O n u2 cb M m s' T S a (J+1) R/\Kx Y W u2/\Dt m s' a p f (mset B (A % 4096) z v)):=⟨U2.out.1.less (fun j hj=>Or.inl hj) HC.out.mc.y0 (HC.out.cpu.kept U2.out.2.1),U2.out.2⟩
 clear U2 HC IC
 go_wp2_with fail
 go_returns
 exact ⟨s',rfl,HE.out⟩
theorem Cw.mload (h:Cw Y O n W cb M m s T S a J R) {p f:Nat} {B:Int->Int} (D:Dt m s a p f B) {A z:Int} (v:Int) (a0:0<=A) (hz:z=1\/z=2\/z=4\/z=8) (o1:A % 4096+z<=4096) :
 Calls Tryz.prog 19 #[pp cb,nm A z,.int .i64 f,.bool false,.int .u64 v] W fun e w'=>e=.returned (.int .u64 (ld B (A % 4096) z.toNat))/\Cw Y O n w' cb M m s T S a J R/\Kx Y W w':=by
 obtain ⟨⟨f1,f2⟩,_⟩:=h.fr D.lf
 have e1:IntKind.u64.wrap (f:Int)=f:=kg
 have e2:IntKind.u64.wrap ((f:Int)*4096)=f*4096:=kg
 have e3:IntKind.u64.wrap ((f:Int)*4096+A % 4096)=f*4096+A % 4096:=kg
 have IC:Hid (∀ w:World,_):=fun w=>insist_ok w
 have HC:Hid (Cw Y O n W cb M m s T S a J R):=h
 have BX:Hid _:=h.box (nbl A z) 80
 have LC:Hid (∀ (w:World),Cw (fun j=>Y j\/(W.heap.size<=j/\j<W.heap.size+1)) O n w cb M m s T S a J R->_):=fun w hw=>hw.load D hz (o:=A % 4096) (by omega) o1
 clear h D hz o1 f1 f2
 go_enter Tryz.func19,Tryz.ntmps19
 go_upto_region 1 with fail
 have G0:Hid (Cw (fun j=>Y j\/(W.heap.size<=j/\j<W.heap.size+1)) O n (W.alloc (.cells (sf1 1 A z) 80)) cb M m s T S a J R/\Blk (W.alloc (.cells (sf1 1 A z) 80)) W.heap.size (nbl A z) 80/\Kx Y W (W.alloc (.cells (sf1 1 A z) 80))):=⟨BX.out.1,BX.out.2.1,BX.out.2.2.1⟩
 clear BX
 generalize W.alloc (.cells (sf1 1 A z) 80)=W0 at G0 |-
 obtain ⟨q,hq⟩: ∃ q,q=W.heap.size:=⟨_,rfl⟩
 have G1:Hid (Blk W0 q (nbl A z) 80/\q=W.heap.size):=by rw [hq];exact ⟨G0.out.2.1,rfl⟩
 rw [<- hq]
 clear hq
 have x1:W0.cell? ⟨q,1,none⟩=some (.int .u64 A):=G1.out.1.cell 1
 go_upto_region 5 with fail
 clear x1
 refine hda (fun cw=>cw.cell? ⟨cb,0,none⟩=some (pp M.mb)/\cw.cell? ⟨M.mb,0,none⟩=some (pp m.rb)/\Blk cw q (nbl A z) 80) (⟨G0.out.1.cs.1,G0.out.1.cs.2.1,G1.out.1⟩) fun hHeld=> ?_
 have U0:Hid (Cw (fun j=>Y j\/(W.heap.size<=j/\j<W.heap.size+1)) O n W0.drew cb M m s T S a J R/\Kx Y W W0.drew):=⟨G0.out.1.below (below_drew (Below.refl _ _)),G0.out.2.2.trans ⟨rfl,rfl,rfl,Nat.le_refl _,fun _ _=>rfl⟩⟩
 clear G0
 generalize W0.drew=U at hHeld U0 |-
 refine tma 0 36 rfl ?_
 refine tma 1 37 rfl ?_
 refine tma 2 38 rfl ?_
 refine tla 3 39 (pp M.mb) rfl ?_ ?_
 . intro w hSw;(try dsimp only at hSw);have r0:=hSw.1;(try go_simp);(try simp [*])
 refine tma 4 40 rfl ?_
 refine tma 5 41 rfl ?_
 refine tla 6 42 (pp m.rb) rfl ?_ ?_
 . intro w hSw;(try dsimp only at hSw);have r0:=hSw.2.1;(try go_simp);(try simp [*])
 refine tma 7 43 rfl ?_
 refine tma 8 44 rfl ?_
 refine tla 9 45 (.int .i64 z) rfl ?_ ?_
 . intro w hSw;(try dsimp only at hSw);have r0:=Blk.cell hSw.2.2 2;(try go_simp);(try simp [*])
 refine rda 10 ⟨some 46,_,_,_,_,none⟩ rfl fun K hK=> ?_
 go_simp
 go_wp2_with (go_at_call 40;refine Calls.mono (LC.out _ U0.out.1) ?_;rintro e u1 ⟨rfl,hb1⟩)
 have U1:Hid (Cw (fun j=>Y j\/(W.heap.size<=j/\j<W.heap.size+1)) O n u1 cb M m s T S a J R/\Kx Y W u1):=⟨U0.out.1.below hb1,U0.out.2.trans ((U0.out.1.kb hb1).sub fun j hj=>Or.inl hj)⟩
 refine hK.out _ _ ⟨U1.out.1.cs.1,U1.out.1.cs.2.1,hHeld.2.2.below hb1⟩ ?_
 clear hK K hHeld hb1 U0 LC
 intro hHeld
 try simp only [Act.put,zaa,zba,zca]
 refine tma 11 35 rfl ?_
 refine tma 12 47 rfl ?_
 refine tma 13 48 rfl ?_
 refine tma 14 12 rfl ?_
 refine tma 15 13 rfl ?_
 clear hHeld G1
 refine wpAnyH_done ka ?_ _
 refine NoPanic.normal ?_
 go_wp2_with fail
 refine Calls.mono (IC.out _) ?_
 rintro e u2 ⟨rfl,hb2⟩
 have HE:Hid (Cw Y O n u2 cb M m s T S a J R/\Kx Y W u2):=by
  have k:Kx Y W u2:=U1.out.2.trans ((U1.out.1.kb hb2).sub fun j hj=>Or.inl hj)
  exact ⟨(U1.out.1.below hb2).less (fun j hj=>Or.inl hj) HC.out.mc.y0 (HC.out.cpu.kept k),k⟩
 clear hb2 U1 HC IC
 go_wp2_with fail
 go_returns
 exact ⟨rfl,HE.out⟩
end
theorem m0 {α :Type} {a: α} {l:List α}:a∈a::l:=List.mem_cons_self ..
theorem m1 {α :Type} {a b: α} {l:List α}:b∈a::b::l:=List.mem_cons_of_mem _ m0
theorem m2 {α :Type} {a b c: α} {l:List α}:c∈a::b::c::l:=List.mem_cons_of_mem _ m1
theorem m3 {α :Type} {a b c d: α} {l:List α}:d∈a::b::c::d::l:=List.mem_cons_of_mem _ m2
theorem IsCpu.mono {Y Y':Nat->Prop} {W:World} {cb mb:Nat} (h:IsCpu Y W cb mb) (y: ∀ j,Y j->Y' j):IsCpu Y' W cb mb:=by
 obtain ⟨h1,h2,lp,n,c,h3,h4,h5⟩:=h
 refine ⟨y _ h1,h2,lp,n,c,h3,h4,fun i hi=> ?_⟩
 obtain ⟨b,o,x,e1,e2,e3⟩:=h5 i hi
 exact ⟨b,o,x,e1,y _ e2,e3⟩
structure Fx (Y K:Nat->Prop) (W:World) (L:List (Nat × List Value × TypeId)) (O:Nat->Nat) (n:Nat) (w:World) (cb:Nat) (M:Mb) (m:Pm) (s:Ps) (T:Nat->Tl.Ln) (S:Pc.Tg) (a:Sr) (J R:Nat):Prop where
 y0:Y 0
 ky: ∀ j,K j->Y j
 c0:IsCpu Y w cb M.mb
 lt: ∀ j,Y j->j<W.heap.size
 k:Kx K W w
 nd:L.Pairwise fun x y=>x.1≠y.1
 is: ∃ Y',(∀ j,Y j->Y' j)/\(∀ e∈L,Y' e.1/\W.heap.size<=e.1/\Blk w e.1 e.2.1 e.2.2)/\Cw Y' O n w cb M m s T S a J R
section
variable {Y K:Nat->Prop} {O:Nat->Nat} {n:Nat} {W w w':World} {L:List (Nat × List Value × TypeId)} {cb:Nat} {M:Mb} {m:Pm} {s:Ps} {T:Nat->Tl.Ln} {S:Pc.Tg} {a:Sr} {J R:Nat}
theorem Cw.fx (h:Cw Y O n W cb M m s T S a J R):Fx Y Y W [] O n W cb M m s T S a J R :=
 ⟨h.mc.y0,fun _ h=>h,h.cpu,fun j hj=>h.mc.pu.lt j (Or.inl hj),Kept.refl _ _,.nil,Y,fun _ h=>h,(by simp),h⟩
theorem Fx.cw (h:Fx Y K W L O n w cb M m s T S a J R):Cw Y O n w cb M m s T S a J R/\Kx K W w:=by
 obtain ⟨Y',h1,h2,h3⟩:=h.is
 exact ⟨h3.less h1 h.y0 h.c0,h.k⟩
theorem Fx.yk (h:Fx Y K W L O n w cb M m s T S a J R) (b:bc w w'):Kx Y w w':=kept_of_below b fun j hj=>nla (h.lt j hj) h.k.size
theorem Fx.blk (h:Fx Y K W L O n w cb M m s T S a J R) {b:Nat} {C:List Value} {t:TypeId} (hb:(b,C,t)∈L):Blk w b C t:=by
 obtain ⟨Y',h1,h2,h3⟩:=h.is
 exact (h2 _ hb).2.2
theorem Fx.cs (h:Fx Y K W L O n w cb M m s T S a J R):w.cell? ⟨cb,0,none⟩=some (pp M.mb)/\w.cell? ⟨M.mb,0,none⟩=some (pp m.rb)/\w.cell? ⟨M.mb,3,none⟩=some (pp M.tl):=h.cw.1.cs
theorem Fx.below (h:Fx Y K W L O n w cb M m s T S a J R) (b:bc w w'):Fx Y K W L O n w' cb M m s T S a J R:=by
 obtain ⟨Y',h1,h2,h3⟩:=h.is
 exact ⟨h.y0,h.ky,h.c0.kept (h.yk b),h.lt,h.k.trans ((h.yk b).sub h.ky),h.nd,Y',h1,fun e he=>⟨(h2 e he).1,(h2 e he).2.1,(h2 e he).2.2.below b⟩,h3.below b⟩
theorem Fx.box (h:Fx Y K W L O n w cb M m s T S a J R) (C:List Value) (t:TypeId):Fx Y K W ((w.heap.size,C,t)::L) O n (w.alloc (.cells C.toArray t)) cb M m s T S a J R:=by
 have b:bc w (w.alloc (.cells C.toArray t)):=baa
 obtain ⟨Y',h1,h2,h3⟩:=h.is
 refine ⟨h.y0,h.ky,h.c0.kept (h.yk b),h.lt,h.k.trans ((h.yk b).sub h.ky),.cons (fun e he=> ?_) h.nd,_,fun j hj=>Or.inl (h1 j hj),fun i hi=> ?_,h3.grow b⟩
 . have:=(h2 e he).2.2.lt
   show w.heap.size≠e.1;omega
 rcases List.mem_cons.1 hi with rfl | hi
 . exact ⟨Or.inr ⟨Nat.le_refl _,by rw [World.size_alloc];exact Nat.lt_succ_self _⟩,h.k.size,Blk.made _ _ _⟩
 . exact ⟨Or.inl (h2 i hi).1,(h2 i hi).2.1,(h2 i hi).2.2.below b⟩
theorem Fx.sub {L':List (Nat × List Value × TypeId)} (h:Fx Y K W L O n w cb M m s T S a J R) (k:List.Sublist L' L):Fx Y K W L' O n w cb M m s T S a J R:=by
 obtain ⟨Y',h1,h2,h3⟩:=h.is
 exact ⟨h.y0,h.ky,h.c0,h.lt,h.k,h.nd.sublist k,Y',h1,fun j hj=>h2 j (k.subset hj),h3⟩
theorem Fx.tail {e:Nat × List Value × TypeId} (h:Fx Y K W (e::L) O n w cb M m s T S a J R):Fx Y K W L O n w cb M m s T S a J R:=h.sub (List.sublist_cons_self ..)
theorem pw_ne {L1 L2:List (Nat × List Value × TypeId)} {b:Nat} {C C':List Value} {t:TypeId} (h:(L1++(b,C,t)::L2).Pairwise fun x y=>x.1≠y.1):(L1++(b,C',t)::L2).Pairwise (fun x y=>x.1≠y.1)/\ ∀ e,e∈L1\/e∈L2->e.1≠b:=by
 rw [List.pairwise_append,List.pairwise_cons] at h |-
 obtain ⟨h1,⟨h2,h3⟩,h4⟩:=h
 refine ⟨⟨h1,⟨h2,h3⟩,fun x hx y hy=> ?_⟩,fun e he=> ?_⟩
 . rcases List.mem_cons.1 hy with rfl | hy
   . exact h4 x hx (b,C,t) (List.mem_cons_self ..)
   . exact h4 x hx y (List.mem_cons_of_mem _ hy)
 . rcases he with he | he
   . exact h4 e he (b,C,t) (List.mem_cons_self ..)
   . exact fun c=>h2 e he c.symm
theorem Fx.put (L1:List (Nat × List Value × TypeId)) {L2:List (Nat × List Value × TypeId)} {b:Nat} {C C':List Value} {t:TypeId} (h:Fx Y K W (L1++(b,C,t)::L2) O n w cb M m s T S a J R) (hl:C'.length=C.length):Fx Y K W (L1++(b,C',t)::L2) O n (w.setCells b 0 C') cb M m s T S a J R:=by
 obtain ⟨Y',h1,h2,h3⟩:=h.is
 obtain ⟨p1,p2⟩:=pw_ne (C':=C') h.nd
 have hb:=h2 (b,C,t) (by simp)
 have hg:=Qu.grown_setCells b C' 0 w
 have l0:=h.lt 0 h.y0
 have k:Kx Y w (w.setCells b 0 C'):=(kept_one hg fun i hi=>⟨by have:=h.lt i hi;have:=hb.2.1;simp only at *;omega,nla (h.lt i hi) h.k.size⟩)
 refine ⟨h.y0,h.ky,h.c0.kept k,h.lt,h.k.trans (k.sub h.ky),p1,Y',h1,fun e he=> ?_,h3.mc.poke hb.1 (by have:=hb.2.1;simp only at *;omega) hg,(h.c0.kept k).mono h1,h3.id,h3.rg,h3.gd,h3.ln,h3.n,h3.g,h3.q,h3.l,h3.nu⟩
 have o: ∀ e,e∈L1\/e∈L2->Y' e.1/\W.heap.size<=e.1/\Blk (w.setCells b 0 C') e.1 e.2.1 e.2.2:=fun e he=>by
  have q:=h2 e (by rcases he with he | he <;> simp [he])
  exact ⟨q.1,q.2.1,(hg.block e.1 q.2.2.lt (fun c=>p2 e he (sia c))).trans q.2.2⟩
 rcases List.mem_append.1 he with he | he
 . exact o e (Or.inl he)
 . rcases List.mem_cons.1 he with rfl | he
   . exact ⟨hb.1,hb.2.1,hb.2.2.put hl.symm⟩
   . exact o e (Or.inr he)
theorem Fx.step {n':Nat} {s':Ps} {T':Nat->Tl.Ln} {S':Pc.Tg} {a':Sr} {J' R':Nat} {f:FuncId} {args:Array Value} {P:Ending->Prop} (h:Fx Y K W L O n w cb M m s T S a J R) (q: ∀ Y',Cw Y' O n w cb M m s T S a J R->Calls Tryz.prog f args w fun e w'=>P e/\Cw Y' O n' w' cb M m s' T' S' a' J' R'/\Kx Y' w w') :
 Calls Tryz.prog f args w fun e w'=>P e/\Fx Y K W L O n' w' cb M m s' T' S' a' J' R':=by
 obtain ⟨Y',h1,h2,h3⟩:=h.is
 refine (q Y' h3).mono ?_
 rintro e w' ⟨he,q1,q2⟩
 exact ⟨he,h.y0,h.ky,h.c0.kept (q2.sub h1),h.lt,h.k.trans (q2.sub fun j hj=>h1 j (h.ky j hj)),h.nd,Y',h1,fun j hj=>⟨(h2 j hj).1,(h2 j hj).2.1,(h2 j hj).2.2.kx q2 (h2 j hj).1⟩,q1⟩
theorem Fx.touch (h:Fx Y K W L O n w cb M m s T S a J R) (hJ:J<900000) {p:Nat} (hp:p<2) {R':Nat} (hr:(a.lf p=none/\R=R'+1)\/((∃ f:Nat,a.lf p=some ⟨f,true,true,false⟩)/\R=R')) (x:Bool) (A z:Int) (a0:0<=A) (ha:A / 4096=p) :
 Calls Tryz.prog 35 #[pp cb,nm A z,av x] w fun e w'=>e=.returned (.tuple #[])/\ ∃ (f:Nat) (s':Ps) (a':Sr),a'.lf p=some ⟨f,true,true,false⟩/\a'.root=a.root/\(∀ f0 B,Dt m s a p f0 B->Dt m s' a' p f0 B)/\Fx Y K W L O n w' cb M m s' T S a' (J+1) R':=by
 obtain ⟨Y',h1,h2,h3⟩:=h.is
 refine (h3.ctouch hJ hp hr x A z a0 ha).mono ?_
 rintro e w' ⟨he,f,s',a',q1,q2,q3,q4,q5⟩
 exact ⟨he,f,s',a',q1,q2,q5,h.y0,h.ky,h.c0.kept (q4.sub h1),h.lt,h.k.trans (q4.sub fun j hj=>h1 j (h.ky j hj)),h.nd,Y',h1,fun j hj=>⟨(h2 j hj).1,(h2 j hj).2.1,(h2 j hj).2.2.kx q4 (h2 j hj).1⟩,q3⟩
structure Ss (w:World) (cb:Nat) (M:Mb) (m:Pm) (q r:Nat) (A z:Int) (x:Bool):Prop where
 c:w.cell? ⟨cb,0,none⟩=some (pp M.mb)
 r0:w.cell? ⟨M.mb,0,none⟩=some (pp m.rb)
 l:w.cell? ⟨M.mb,3,none⟩=some (pp M.tl)
 q:Blk w q (nbl A z) 80
 r:Blk w r (abl x) 84
theorem Fx.ss (h:Fx Y K W L O n w cb M m s T S a J R) {q r:Nat} {A z:Int} {x:Bool} (hq:(q,nbl A z,80)∈L) (hr:(r,abl x,84)∈L):Ss w cb M m q r A z x:=⟨h.cs.1,h.cs.2.1,h.cs.2.2,h.blk hq,h.blk hr⟩
end
def refc (addr code err:Int):PanicEntry:={ v:=.iface 77 (.agg #[.int .u64 addr,.int .i64 code,.int .i64 err]),recovered:=false }
end Go.Proofs.YtgbdnnkkcpkhdaaGreatDoor.Sp
