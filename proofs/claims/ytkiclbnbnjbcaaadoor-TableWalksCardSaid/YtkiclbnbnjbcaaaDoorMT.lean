import Derived.Test.YtkiclbnbnjbcaaaDoorMC
import Derived.Test.YtkiclbnbnjbcaaaDoorMX
import Derived.Test.YtkiclbnbnjbcaaaDoorMJ
import Derived.Laws.StructEq
namespace Go.Proofs.YtkiclbnbnjbcaaaDoor.Tt
open Go.ChangeShapes Go.WideShapes Go.ChangeAt Go.RowKit Go.Maps
set_option linter.unusedSimpArgs false
set_option linter.unusedVariables false
set_option maxRecDepth 8000
structure Bits (X:Int) (p q u d l g n:Bool) (f:Int):Prop where
 p:bt X=p
 q:bt (X / 2)=q
 u:bt (X / 4)=u
 d:bt (X / 64)=d
 l:bt (X / 128)=l
 g:bt (X / 256)=g
 n:bt (X / 9223372036854775808)=n
 f:X / 4096 % 1048576=f
 z:X / 4294967296 % 1048576=0
theorem pack_bits (p q u a d l g n:Bool) (f:Int) (f0:0<=f) (f1:f<1048576):Bits (packV p q u a d l g n f) p q u d l g n f:=by
 have h:=unp_pack p q u a d l g n f f0 f1
 unfold unp at h
 simp only [Value.agg.injEq,Array.mk.injEq,List.cons.injEq,Value.bool.injEq,Value.int.injEq,and_true,true_and] at h
 obtain ⟨h0,h1,h2,h3,h4,h5,h6,h7,h8⟩:=h
 refine ⟨h0,h1,h2,h4,h5,h6,h7,h8,?_⟩
 unfold packV fl
 cases p <;> cases q <;> cases u <;> cases a <;> cases d <;> cases l <;> cases g <;> cases n <;> simp <;> omega
theorem bad_ok {has:Int->Bool} {M:Int->Int} {T P L ad cd f:Int} {q u d l g n:Bool} (hc:chkG has (T*4096+P*8) 8=0) (h:Bits (En M T P) true q u d l g n f) (hl:l=false\/(L=2/\f=0)):badV has M T P L ad cd=none:=by
 unfold badV
 have e:entV M T P=En M T P:=rfl
 rw [if_neg (by rw [hc];simp),e,if_neg (by rw [h.p];simp),if_neg]
 unfold resV
 rw [h.p,h.z,h.l]
 rcases hl with e1 | ⟨e1,e2⟩
 . subst e1;simp
 . subst e1 e2
   have q:=h.f
   have:En M T P / 4096 % 512=0:=by omega
   rw [this];simp
theorem bad_no {has:Int->Bool} {M:Int->Int} {T P L ad cd:Int} (hc:chkG has (T*4096+P*8) 8=0) (h:En M T P=0):badV has M T P L ad cd=some (ad,cd,9):=by
 unfold badV
 have e:entV M T P=0:=h
 rw [if_neg (by rw [hc];simp),e,if_pos bt_zero]
theorem walk0_no {has:Int->Bool} {M:Int->Int} {root addr cd p0 p1 p2 p3 a c e:Int} {x u f:Bool} (h:badV has M root p0 4 addr cd=some (a,c,e)):walk0 has M root addr cd p0 p1 p2 p3 x u f=WR.no M a c e:=by unfold walk0;rw [h]
theorem walk0_ok {has:Int->Bool} {M:Int->Int} {root addr cd p0 p1 p2 p3:Int} {x u f:Bool} (h:badV has M root p0 4 addr cd=none):walk0 has M root addr cd p0 p1 p2 p3 x u f=walk1 has M addr cd p1 p2 p3 x u f (root*4096+p0*8) (entV M root p0):=by unfold walk0;rw [h]
theorem walk1_no {has:Int->Bool} {M:Int->Int} {T addr cd p1 p2 p3 A0 X0 a c e:Int} {x u f:Bool} (hT:X0 / 4096 % 1048576=T) (h:badV has M T p1 3 addr cd=some (a,c,e)):walk1 has M addr cd p1 p2 p3 x u f A0 X0=WR.no M a c e:=by unfold walk1;rw [hT,h]
theorem walk1_ok {has:Int->Bool} {M:Int->Int} {T addr cd p1 p2 p3 A0 X0:Int} {x u f:Bool} (hT:X0 / 4096 % 1048576=T) (h:badV has M T p1 3 addr cd=none):walk1 has M addr cd p1 p2 p3 x u f A0 X0=walk2 has M addr cd p2 p3 x u f A0 X0 (T*4096+p1*8) (entV M T p1):=by unfold walk1;rw [hT,h]
theorem walk2_no {has:Int->Bool} {M:Int->Int} {T addr cd p2 p3 A0 X0 A1 X1 a c e:Int} {x u f:Bool} (hT:X1 / 4096 % 1048576=T) (h:badV has M T p2 2 addr cd=some (a,c,e)):walk2 has M addr cd p2 p3 x u f A0 X0 A1 X1=WR.no M a c e:=by unfold walk2;rw [hT,h]
theorem walk2_ok {has:Int->Bool} {M:Int->Int} {T addr cd p2 p3 A0 X0 A1 X1:Int} {x u f:Bool} (hT:X1 / 4096 % 1048576=T) (h:badV has M T p2 2 addr cd=none):walk2 has M addr cd p2 p3 x u f A0 X0 A1 X1=walk3 has M addr cd p3 x u f A0 X0 A1 X1 (T*4096+p2*8) (entV M T p2):=by unfold walk2;rw [hT,h]
theorem walk3_big {has:Int->Bool} {M:Int->Int} {addr cd p3 A0 X0 A1 X1 A2 X2:Int} {x u f:Bool} (h:bt (X2 / 128)=true):walk3 has M addr cd p3 x u f A0 X0 A1 X1 A2 X2=end3 M addr cd p3 x u f A0 X0 A1 X1 A2 X2:=by unfold walk3;rw [if_pos h]
theorem walk3_no {has:Int->Bool} {M:Int->Int} {T addr cd p3 A0 X0 A1 X1 A2 X2 a c e:Int} {x u f:Bool} (hl:bt (X2 / 128)=false) (hT:X2 / 4096 % 1048576=T) (h:badV has M T p3 1 addr cd=some (a,c,e)):walk3 has M addr cd p3 x u f A0 X0 A1 X1 A2 X2=WR.no M a c e:=by unfold walk3;rw [if_neg (by rw [hl];simp),hT,h]
theorem walk3_ok {has:Int->Bool} {M:Int->Int} {T addr cd p3 A0 X0 A1 X1 A2 X2:Int} {x u f:Bool} (hl:bt (X2 / 128)=false) (hT:X2 / 4096 % 1048576=T) (h:badV has M T p3 1 addr cd=none):walk3 has M addr cd p3 x u f A0 X0 A1 X1 A2 X2=end4 M addr cd x u f A0 X0 A1 X1 A2 X2 (T*4096+p3*8) (entV M T p3):=by unfold walk3;rw [if_neg (by rw [hl];simp),hT,h]
theorem walkW_in {has:Int->Bool} {M:Int->Int} {root addr:Int} {x u f:Bool} (he:(ext addr==addr)=true) (hr:has root=true):walkW has M root addr x u f=walk0 has M root addr (codeV x u f) (addr / 4096 / 512 / 512 / 512 % 512) (addr / 4096 / 512 / 512 % 512) (addr / 4096 / 512 % 512) (addr / 4096 % 512) x u f:=by
 unfold walkW
 rw [if_neg (by rw [he];simp),if_neg (by rw [hr];simp)]
abbrev refV (addr c:Int):Value:=.tuple #[.agg #[.int .i64 0,.bool false,.bool false,.bool false,.bool false,.bool false,.bool false],.agg #[.int .u64 addr,.int .i64 c],.int .i64 9]
abbrev okV (fr:Int) (w u x g l d:Bool):Value:=.tuple #[.agg #[.int .i64 fr,.bool w,.bool u,.bool x,.bool g,.bool l,.bool d],.agg #[.int .u64 0,.int .i64 0],.int .i64 0]
section
variable {has:Int->Bool} {M:Int->Int} {root:Nat} {tab:Nat->Nat->Option Nat} {lf:Nat->Option Lf}
theorem mkt_bits {x:Int} {f:Nat} (h:MkT x f): ∃ d,Bits x true true true d false false false f:=by
 obtain ⟨h1,a,d,rfl⟩:=h
 exact ⟨d,pack_bits true true true a d false false false f (by omega) (by omega)⟩
theorem mkl_bits {x:Int} {v:Lf} (h:MkL x v):Bits x true v.w v.u false false false (!v.x) v.f:=by
 obtain ⟨h1,a,d,rfl⟩:=h
 unfold leafV
 rw [Bool.and_false]
 exact pack_bits true v.w v.u a false false false (!v.x) v.f h1.1 h1.2
theorem walk_low (H:PW M root tab lf) (hc: ∀ l x f,tab l x=some f->has (f:Int)=true/\ ∀ P:Int,0<=P->P<512->chkG has ((f:Int)*4096+P*8) 8=0) {addr:Int} (he:(ext addr==addr)=true) {p:Nat} (hp:p<34359738368) (ha:addr / 4096=(p:Int)) (x u f:Bool) :
 (walkW has M root addr x u f).val=match lf p with
  | none => refV addr (codeV x u f)
  | some v => if mayV v.w v.u v.x x u f = true then okV v.f v.w v.u v.x false false x else refV addr (codeV x u f + 1) := by
 obtain ⟨r1,r2⟩:=hc 4 0 root H.t4
 rw [walkW_in he r1,ha]
 obtain ⟨i0,i1,i2,i3⟩:=at_at p
 rw [<- i0,<- i1,<- i2,<- i3]
 have a0:atP p 0=((pre 3 p % 512:Nat):Int):=rfl
 have a1:atP p 1=((pre 2 p % 512:Nat):Int):=rfl
 have a2:atP p 2=((pre 1 p % 512:Nat):Int):=rfl
 have a3:atP p 3=((p % 512:Nat):Int):=rfl
 have p3:=pre3 hp
 have up4:tab 4 (pre 3 p / 512)=some root:=by rw [show pre 3 p / 512=0 by omega];exact H.t4
 have lfn: ∀ l,1<=l->l<4->tab l (pre l p)=none->lf p=none:=fun l l1 l4 e=>by
  cases q:lf p with
  | none => rfl
  | some v =>
   obtain ⟨_,g,hg,_⟩:=H.lf1 p v q
   have n1:=none_below H (l-1) 1 (by omega) (by omega) (by rw [show 1+(l-1)=l by omega];exact e)
   have:tab 1 (pre 1 p)=some g:=hg
   rw [n1] at this;cases this
 cases t3:tab 3 (pre 3 p) with
 | none =>
  have z:=H.no 3 (pre 3 p) root (by omega) (by omega) (fun _=>p3) t3 up4
  rw [lfn 3 (by omega) (by omega) t3,walk0_no (bad_no (r2 _ (at_bd p 0).1 (at_bd p 0).2) (by rw [a0];exact z))]
  rfl
 | some f3 =>
  obtain ⟨g,hg,mk⟩:=H.up 3 (pre 3 p) f3 (by omega) t3
  have eg:g=root:=by have:=hg.symm.trans up4;exact Option.some.inj this
  subst eg
  obtain ⟨d0,b0⟩:=mkt_bits mk
  rw [<- a0] at b0
  obtain ⟨c1,c2⟩:=hc _ _ _ t3
  have e0:entV M g (atP p 0) / 4096 % 1048576=(f3:Int):=b0.f
  rw [walk0_ok (bad_ok (r2 _ (at_bd p 0).1 (at_bd p 0).2) b0 (Or.inl rfl))]
  cases t2:tab 2 (pre 2 p) with
  | none =>
   have z:=H.no 2 (pre 2 p) f3 (by omega) (by omega) (fun q=>by omega) t2 t3
   rw [lfn 2 (by omega) (by omega) t2,walk1_no e0 (bad_no (c2 _ (at_bd p 1).1 (at_bd p 1).2) (by rw [a1];exact z))]
   rfl
  | some f2 =>
   obtain ⟨g2,hg2,mk2⟩:=H.up 2 (pre 2 p) f2 (by omega) t2
   have eg2:f3=g2:=by have:=t3.symm.trans hg2;exact Option.some.inj this
   subst eg2
   obtain ⟨d1,b1⟩:=mkt_bits mk2
   rw [<- a1] at b1
   obtain ⟨k1,k2⟩:=hc _ _ _ t2
   have e1:entV M f3 (atP p 1) / 4096 % 1048576=(f2:Int):=b1.f
   rw [walk1_ok e0 (bad_ok (c2 _ (at_bd p 1).1 (at_bd p 1).2) b1 (Or.inl rfl))]
   cases t1:tab 1 (pre 1 p) with
   | none =>
    have z:=H.no 1 (pre 1 p) f2 (by omega) (by omega) (fun q=>by omega) t1 t2
    rw [lfn 1 (by omega) (by omega) t1,walk2_no e1 (bad_no (k2 _ (at_bd p 2).1 (at_bd p 2).2) (by rw [a2];exact z))]
    rfl
   | some f1 =>
    obtain ⟨g3,hg3,mk3⟩:=H.up 1 (pre 1 p) f1 (by omega) t1
    have eg3:f2=g3:=by have:=t2.symm.trans hg3;exact Option.some.inj this
    subst eg3
    obtain ⟨d2,b2⟩:=mkt_bits mk3
    rw [<- a2] at b2
    obtain ⟨j1,j2⟩:=hc _ _ _ t1
    rw [walk2_ok e1 (bad_ok (k2 _ (at_bd p 2).1 (at_bd p 2).2) b2 (Or.inl rfl))]
    have e2:entV M f2 (atP p 2) / 4096 % 1048576=(f1:Int):=b2.f
    have e2':bt (entV M f2 (atP p 2) / 128)=false:=b2.l
    cases hl:lf p with
    | none =>
     have z:=H.lf0 p f1 hp hl t1
     rw [walk3_no e2' e2 (bad_no (j2 _ (at_bd p 3).1 (at_bd p 3).2) (by rw [a3];exact z))]
     rfl
    | some v =>
     obtain ⟨_,g4,hg4,mk4⟩:=H.lf1 p v hl
     have eg4:f1=g4:=by have:=t1.symm.trans hg4;exact Option.some.inj this
     subst eg4
     have b3:=mkl_bits mk4
     rw [<- a3] at b3
     rw [walk3_ok e2' e2 (bad_ok (j2 _ (at_bd p 3).1 (at_bd p 3).2) b3 (Or.inl rfl))]
     unfold end4
     have E0:entV M g (atP p 0)=En M g (atP p 0):=rfl
     have E1:entV M f3 (atP p 1)=En M f3 (atP p 1):=rfl
     have E2:entV M f2 (atP p 2)=En M f2 (atP p 2):=rfl
     have E3:entV M f1 (atP p 3)=En M f1 (atP p 3):=rfl
     rw [E0,E1,E2,E3]
     simp only [b0.q,b1.q,b2.q,b3.q,b0.u,b1.u,b2.u,b3.u,b0.n,b1.n,b2.n,b3.n,b3.f,b3.g,b3.d,Bool.true_and,Bool.not_false,Bool.not_not,Bool.false_or]
     by_cases c:mayV v.w v.u v.x x u f=true
     . rw [if_pos c,if_pos c]
     . rw [if_neg c,if_neg c]
       rfl
structure KE (M:Int->Int) (root kf z:Nat):Prop where
 r:En M root 256=packV true true false false false false false false (kf:Nat)
 r0: ∀ j:Nat,256<j->j<512->En M root j=0
 k:En M kf 0=packV true true false false false false false false (z:Nat)
 k0: ∀ j:Nat,0<j->j<512->En M kf j=0
 y:En M z 0=packV true true false false false true true true 0
 y0: ∀ j:Nat,0<j->j<512->En M z j=0
theorem walk_high {kf z:Nat} (H:KE M root kf z) (k6:kf<1048576) (z6:z<1048576) (hc: ∀ f:Nat,f=root\/f=kf\/f=z->has (f:Int)=true/\ ∀ P:Int,0<=P->P<512->chkG has ((f:Int)*4096+P*8) 8=0) {addr:Int} (he:(ext addr==addr)=true) (h0:18446603336221196288<=addr) (h1:addr<18446744073709551616) (x u f:Bool) :
 (∃ c,(walkW has M root addr x u f).val=refV addr c/\(512<=(addr-18446603336221196288) / 4096\/u=true\/f=true))\/((addr-18446603336221196288) / 4096<512/\u=false/\f=false/\(walkW has M root addr x u f).val=okV ((addr-18446603336221196288) / 4096) true false false true true x):=by
 obtain ⟨r1,r2⟩:=hc root (Or.inl rfl)
 obtain ⟨c1,c2⟩:=hc kf (Or.inr (Or.inl rfl))
 obtain ⟨k1,k2⟩:=hc z (Or.inr (Or.inr rfl))
 rw [walkW_in he r1]
 obtain ⟨i0,h_i0⟩: ∃ i0:Nat,(i0:Int)=addr / 4096 / 512 / 512 / 512 % 512:=⟨(addr / 4096 / 512 / 512 / 512 % 512).toNat,by omega⟩
 obtain ⟨i1,h_i1⟩: ∃ i1:Nat,(i1:Int)=addr / 4096 / 512 / 512 % 512:=⟨(addr / 4096 / 512 / 512 % 512).toNat,by omega⟩
 obtain ⟨i2,h_i2⟩: ∃ i2:Nat,(i2:Int)=addr / 4096 / 512 % 512:=⟨(addr / 4096 / 512 % 512).toNat,by omega⟩
 obtain ⟨i3,h_i3⟩: ∃ i3:Nat,(i3:Int)=addr / 4096 % 512:=⟨(addr / 4096 % 512).toNat,by omega⟩
 rw [<- h_i0,<- h_i1,<- h_i2,<- h_i3]
 have b0:=pack_bits true true false false false false false false (kf:Int) (by omega) (by omega)
 have b1:=pack_bits true true false false false false false false (z:Int) (by omega) (by omega)
 have b2:=pack_bits true true false false false true true true 0 (by omega) (by omega)
 rw [<- H.r] at b0
 rw [<- H.k] at b1
 rw [<- H.y] at b2
 have l0:256<=i0/\i0<512:=by omega
 have l1:i1<512:=by omega
 have l2:i2<512:=by omega
 by_cases j0:i0=256
 rotate_left
 . left
   rw [walk0_no (bad_no (r2 _ (by omega) (by omega)) (H.r0 i0 (by omega) (by omega)))]
   exact ⟨_,rfl,Or.inl (by omega)⟩
 subst j0
 have e0:entV M root ((256:Nat):Int) / 4096 % 1048576=(kf:Int):=b0.f
 rw [walk0_ok (bad_ok (r2 _ (by omega) (by omega)) (P:=((256:Nat):Int)) b0 (Or.inl rfl))]
 by_cases j1:i1=0
 rotate_left
 . left
   rw [walk1_no e0 (bad_no (c2 _ (by omega) (by omega)) (H.k0 i1 (by omega) (by omega)))]
   exact ⟨_,rfl,Or.inl (by omega)⟩
 subst j1
 have e1:entV M kf ((0:Nat):Int) / 4096 % 1048576=(z:Int):=b1.f
 rw [walk1_ok e0 (bad_ok (c2 _ (by omega) (by omega)) (P:=((0:Nat):Int)) b1 (Or.inl rfl))]
 by_cases j2:i2=0
 rotate_left
 . left
   rw [walk2_no e1 (bad_no (k2 _ (by omega) (by omega)) (H.y0 i2 (by omega) (by omega)))]
   exact ⟨_,rfl,Or.inl (by omega)⟩
 subst j2
 have e2:bt (entV M z ((0:Nat):Int) / 128)=true:=b2.l
 rw [walk2_ok e1 (bad_ok (k2 _ (by omega) (by omega)) (P:=((0:Nat):Int)) b2 (Or.inr ⟨rfl,rfl⟩)),walk3_big e2]
 unfold end3
 have E0:entV M root ((256:Nat):Int)=En M root 256:=rfl
 have E1:entV M kf ((0:Nat):Int)=En M kf 0:=rfl
 have E2:entV M z ((0:Nat):Int)=En M z 0:=rfl
 rw [E0,E1,E2]
 have fr:(addr-18446603336221196288) / 4096=(i3:Int):=by omega
 have f5:i3<512:=by omega
 simp only [b0.q,b1.q,b2.q,b0.u,b1.u,b2.u,b0.n,b1.n,b2.n,b2.f,b2.g,b2.d,Bool.true_and,Bool.false_and,Bool.and_false,Bool.not_false,Bool.not_true,Bool.false_or]
 cases u with
 | true =>
  left
  rw [if_neg (by unfold mayV;simp)]
  exact ⟨_,rfl,Or.inr (Or.inl rfl)⟩
 | false =>
  cases f with
  | true =>
   left
   rw [if_neg (by unfold mayV;simp)]
   exact ⟨_,rfl,Or.inr (Or.inr rfl)⟩
  | false =>
   right
   rw [if_pos (by unfold mayV;cases x <;> rfl),fr]
   refine ⟨by omega,rfl,rfl,?_⟩
   show okV (0+(i3:Int)) true false false true true x=_
   rw [Int.zero_add]
end
end Go.Proofs.YtkiclbnbnjbcaaaDoor.Tt
namespace Go.Proofs.YtkiclbnbnjbcaaaDoor.Tt
open Go.ChangeShapes Go.WideShapes Go.ChangeAt Go.RowKit Go.Maps
set_option linter.unusedSimpArgs false
set_option linter.unusedVariables false
set_option maxRecDepth 8000
structure Kw (m:Pm) (root kf z:Nat) (s:Ps) (tab:Nat->Nat->Option Nat):Prop where
 ke:KE s.M root kf z
 tk: ∀ l x,tab l x≠some kf
 tz: ∀ l x,tab l x≠some z
 fk: ¬ s.Fr kf
 fz: ¬ s.Fr z
 hk:m.has (kf:Int)=true
 hz:m.has (z:Int)=true
section
variable {m:Pm} {root kf z n:Nat} {X Y:Nat->Prop} {w2 W:World} {s s':Ps} {tab tab':Nat->Nat->Option Nat} {lf:Nat->Option Lf} {v:Value}
theorem Kw.apt (h:Kw m root kf z s tab) (t4:tab 4 0=some root) (a:Apt s s' tab tab'):Kw m root kf z s' tab':=by
 obtain ⟨_,k1,k2⟩:=a.oth kf h.tk h.fk
 obtain ⟨_,z1,z2⟩:=a.oth z h.tz h.fz
 have hi:=a.hi root t4
 have ke:=h.ke
 refine ⟨⟨(hi 256 (by omega) (by omega)).trans ke.r,fun j a b=>(hi j (by omega) b).trans (ke.r0 j a b),(k2 0 (by omega)).trans ke.k,fun j a b=>(k2 j b).trans (ke.k0 j a b),(z2 0 (by omega)).trans ke.y,fun j a b=>(z2 j b).trans (ke.y0 j a b)⟩,fun l x e=> ?_,fun l x e=> ?_,k1,z1,h.hk,h.hz⟩
 . rcases a.new l x kf e with q | q
   . exact h.tk l x q
   . exact h.fk q
 . rcases a.new l x z e with q | q
   . exact h.tz l x q
   . exact h.fz q
structure Wk (m:Pm) (root kf z:Nat) (X:Nat->Prop) (w2:World) (n:Nat) (Y:Nat->Prop) (s:Ps) (tab:Nat->Nat->Option Nat) (lf:Nat->Option Lf) (v:Value) (W:World):Prop where
 sd:Sd Y m root 0 88 2 87 s tab lf v W
 q:s.q<=6000+10*n
 ln:(pgs lf).length<=n
 kw:Kw m root kf z s tab
 xy: ∀ j,X j->Y j
 kx:Kx X w2 W
def WkO (m:Pm) (root kf z:Nat) (X:Nat->Prop) (w2:World) (n:Nat) (v:Value) (W:World):Prop:= ∃ Y s tab lf,Wk m root kf z X w2 n Y s tab lf v W
theorem Sd.below2 {w:World} (h:Sd Y m root 0 88 2 87 s tab lf v W) (hb:Below W.heap.size W w):Sd Y m root 0 88 2 87 s tab lf v w:=⟨h.st.below hb,by obtain ⟨p,c,hv,hl,hg⟩:=h.ls;exact ⟨p,c,hv,hl.below hb,hg⟩⟩
theorem Wk.below {w:World} (h:Wk m root kf z X w2 n Y s tab lf v W) (hb:Below W.heap.size W w):Wk m root kf z X w2 n Y s tab lf v w :=
 ⟨h.sd.below2 hb,h.q,h.ln,h.kw,h.xy,h.kx.trans ((Kx.of_below h.sd.st.pu hb).sub h.xy)⟩
theorem WkO.below {w:World} (h:WkO m root kf z X w2 n v W) (hb:Below W.heap.size W w):WkO m root kf z X w2 n v w:=by
 obtain ⟨Y,s,tab,lf,h⟩:=h
 exact ⟨Y,s,tab,lf,h.below hb⟩
theorem WkO.more {n':Nat} (h:WkO m root kf z X w2 n v W) (hn:n<=n'):WkO m root kf z X w2 n' v W:=by
 obtain ⟨Y,s,tab,lf,h⟩:=h
 exact ⟨Y,s,tab,lf,h.sd,by have:=h.q;omega,by have:=h.ln;omega,h.kw,h.xy,h.kx⟩
theorem WkO.does (h:WkO m root kf z X w2 n v W) (hn:n<20) (kd pg fr:Int) (pa pb pc:Bool) :
 Calls Tryd.prog 14 #[pv m 0,.int .i64 root,v,.agg #[.int .i64 kd,.int .i64 pg,.int .i64 fr,.bool pa,.bool pb,.bool pc],.int .i64 100] W fun e w'=> ∃ v',e=.returned (.tuple #[v',.bool true])/\WkO m root kf z X w2 (n+1) v' w'/\Kx X W w':=by
 obtain ⟨Y,s,tab,lf,h⟩:=h
 have tl:=tabs_le (pgs lf)
 have ln:=h.ln
 have q:=h.q
 have c:=does_any h.sd (by omega) (by omega) (Or.inr (by omega)) (by omega) (by omega) 100 (fun p=>by have:=fresh_le (pgs lf) p;omega) kd pg fr pa pb pc
 refine Calls.mono c ?_
 rintro e w' ⟨v',he,Y',s',tab',lf',hy,sd',q',ln',ap,kx',_⟩
 exact ⟨v',he,⟨Y',s',tab',lf',sd',by omega,by omega,h.kw.apt h.sd.st.rt.pw.t4 ap,fun j hj=>hy j (h.xy j hj),h.kx.trans (kx'.sub h.xy)⟩,kx'.sub h.xy⟩
theorem Wk.walk (h:Wk m root kf z X w2 n Y s tab lf v W) (hn:n<=20) (addr:Int) (a0:0<=addr) (a1:addr<18446744073709551616) (x u f:Bool) :
 Calls Tryd.prog 22 #[pp m.rb,.int .i64 root,.int .u64 addr,.agg #[.bool x,.bool u,.bool f]] W fun e w'=>e=.returned (walkW m.has s.M root addr x u f).val/\Kx Y W w':=by
 have q:=h.q
 obtain ⟨K,Z,S,pk⟩:=h.sd.st.pu
 have so:=pk.so
 have c:=walk_any (K0:=K) ⟨pk.ram.ram,S,pk.ram.ok,pk.ram.sub⟩ pk.tab (pk.x 0 pk.x0).1 (by unfold maxLen;omega) (fun k hk=>by have:=so.hb k hk;have:=so.F1;omega) root addr a0 a1 x u f
 refine Calls.mono c ?_
 rintro e w' ⟨he,_,hk,_⟩
 exact ⟨he,hk.sub (fun j hj=>(pk.x j hj).1)⟩
theorem Wk.low (h:Wk m root kf z X w2 n Y s tab lf v W) {addr:Int} (he:(ext addr==addr)=true) {p:Nat} (hp:p<34359738368) (ha:addr / 4096=(p:Int)) (x u f:Bool) :
 (walkW m.has s.M root addr x u f).val=match lf p with
  | none => refV addr (codeV x u f)
  | some v => if mayV v.w v.u v.x x u f = true then okV v.f v.w v.u v.x false false x else refV addr (codeV x u f + 1) :=
 walk_low h.sd.st.rt.pw (fun l x f e=>by
  have hh:=(h.sd.st.rt.ow l x f e).1
  have hb:=h.sd.st.pu.so.hb _ hh
  have f1:=h.sd.st.pu.so.F1
  exact ⟨hh,fun P p0 p1=>chk8 hh (by omega) (by omega) p0 p1⟩) he hp ha x u f
theorem Wk.high (h:Wk m root kf z X w2 n Y s tab lf v W) {addr:Int} (he:(ext addr==addr)=true) (h0:18446603336221196288<=addr) (h1:addr<18446744073709551616) (x u f:Bool) :
 (∃ c,(walkW m.has s.M root addr x u f).val=refV addr c/\(512<=(addr-18446603336221196288) / 4096\/u=true\/f=true))\/((addr-18446603336221196288) / 4096<512/\u=false/\f=false/\(walkW m.has s.M root addr x u f).val=okV ((addr-18446603336221196288) / 4096) true false false true true x):=by
 have so:=h.sd.st.pu.so
 have b1:=so.hb _ h.kw.hk
 have b2:=so.hb _ h.kw.hz
 have f1:=so.F1
 refine walk_high h.kw.ke (by omega) (by omega) (fun f hf=> ?_) he h0 h1 x u f
 have hh:m.has (f:Int)=true:=by
  rcases hf with e | e | e
  . rw [e];exact (h.sd.st.rt.ow 4 0 root h.sd.st.rt.pw.t4).1
  . rw [e];exact h.kw.hk
  . rw [e];exact h.kw.hz
 have hb:=so.hb _ hh
 exact ⟨hh,fun P p0 p1=>chk8 hh (by omega) (by omega) p0 p1⟩
theorem walk_bad (has:Int->Bool) (M:Int->Int) (root addr:Int) (he:(ext addr==addr)=false) (x u f:Bool):(walkW has M root addr x u f).val=.tuple #[.agg #[.int .i64 0,.bool false,.bool false,.bool false,.bool false,.bool false,.bool false],.agg #[.int .u64 0,.int .i64 0],.int .i64 1]:=by
 unfold walkW
 rw [if_pos he]
 rfl
theorem Wk.ld {w:World} (h:Wk m root kf z X w2 n Y s tab lf v W) (hk:Kx Y W w): ∃ p c,v=.slice p (lvs lf).length c/\Ld w lf p:=by
 obtain ⟨p,c,hv,hl,hg⟩:=h.sd.ls
 exact ⟨p,c,hv,hl.kx hk hg⟩
end
end Go.Proofs.YtkiclbnbnjbcaaaDoor.Tt
namespace Go.Proofs.YtkiclbnbnjbcaaaDoor.Tt
open Go.ChangeShapes Go.WideShapes Go.ChangeAt Go.RowKit Go.Maps
set_option linter.unusedSimpArgs false
set_option linter.unusedVariables false
set_option maxRecDepth 8000
theorem cellsAcc:Tryd.prog.cellsOf 54=3:=by kernel_rfl
theorem acc_cells {H:Type} {enc:TypeId × Value->H} {W:World} {base:Nat} {sp:Nat->Bool} {held:Bool} {x:DataW H} {ps:List MemPlace} {fuel:Nat} {cs:List Value} (hf:DataW.trod enc Tryd.prog W base sp held fuel 54 cs=some (x,ps)) (hl:cs.length=3) :
 ∃ (a0:Bool) (a1:Bool) (a2:Bool),cs=[.bool a0,.bool a1,.bool a2]/\True:=by
 obtain ⟨c0,c1,c2,hcs⟩: ∃ c0 c1 c2,cs=[c0,c1,c2]:=by
  revert hl
  match cs with
  | [c0, c1, c2] => intro _; exact ⟨c0, c1, c2, rfl⟩
  | [] => intro q; cases q
  | [_] => intro q; cases q
  | [_, _] => intro q; cases q
  | _ :: _ :: _ :: _ :: _ => intro q; simp at q
 subst hcs
 obtain ⟨zs,m,_,_,jl,jlen,jf⟩:=DataW.trod_struct Tryd.underlying54 hf
 have jg: ∀ i,i<3-> ∃ y,zs[i]? =some y:=fun i hi=>⟨_,List.getElem?_eq_getElem (by rw [jlen];exact hi)⟩
 obtain ⟨⟨z0a,z0b⟩,m0⟩:=jg 0 (by omega)
 obtain ⟨b0,e0,_⟩:=DataW.trod_bool Tryd.underlying4 ((jf 0 _ rfl).trans m0)
 obtain rfl:=cell_of cellsB e0 (c:=c0) (by first | rfl | (rw [cellsB];rfl))
 obtain ⟨⟨z1a,z1b⟩,m1⟩:=jg 1 (by omega)
 obtain ⟨b1,e1,_⟩:=DataW.trod_bool Tryd.underlying4 ((jf 1 _ rfl).trans m1)
 obtain rfl:=cell_of cellsB e1 (c:=c1) (by first | rfl | (rw [cellsB];rfl))
 obtain ⟨⟨z2a,z2b⟩,m2⟩:=jg 2 (by omega)
 obtain ⟨b2,e2,_⟩:=DataW.trod_bool Tryd.underlying4 ((jf 2 _ rfl).trans m2)
 obtain rfl:=cell_of cellsB e2 (c:=c2) (by first | rfl | (rw [cellsB];rfl))
 exact ⟨_,_,_,rfl,trivial⟩
theorem open_ac3 {H:Type} {enc:TypeId × Value->H} {W:World} {base:Nat} {sp:Nat->Bool} {held:Bool} {r:Reach} {b0:Nat} {v:Value} {x:DataW H} {ps:List MemPlace}
 (hv:Value.okWide Tryd.prog W r b0 54 v) (h:DataW.Trod enc Tryd.prog W base sp held 54 v x ps): ∃ s:B3,v=s.val/\True:=by
 obtain ⟨cs,rfl,hsz⟩:=okWide_struct Tryd.underlying54 hv
 obtain ⟨fuel,hf⟩:=h
 have hf2:DataW.trod enc Tryd.prog W base sp held fuel 54 cs.toList=some (x,ps):=hf
 obtain ⟨a0,a1,a2,e,_⟩:=acc_cells hf2 (by rw [Array.length_toList];exact hsz.trans cellsAcc)
 refine ⟨⟨a0,a1,a2⟩,?_,trivial⟩
 show Value.agg cs=Value.agg _
 rw [<- Array.toArray_toList (xs:=cs),e]
end Go.Proofs.YtkiclbnbnjbcaaaDoor.Tt
namespace Go.Proofs.YtkiclbnbnjbcaaaDoor
open Go.ChangeShapes Go.WideShapes Go.ChangeAt Go.RowKit Go.Maps
theorem eqIw (d:Nat) (a b:Int) (W:World):(Op.equalIn (d+1) 3 (.int .i64 a) (.int .i64 b)).run Tryd.prog W=.ok (a==b) W:=run_equalIn_int W d _ .i64 .i64 a b Tryd.underlying3
theorem eqBw (d:Nat) (a b:Bool) (W:World):(Op.equalIn (d+1) 4 (.bool a) (.bool b)).run Tryd.prog W=.ok (a==b) W:=run_equalIn_bool W d _ a b Tryd.underlying4
theorem eqPm (d:Nat) (a b c a' b' c':Bool) (W:World):(Op.equalIn (d+2) 40 (.agg #[.bool a,.bool b,.bool c]) (.agg #[.bool a',.bool b',.bool c'])).run Tryd.prog W=.ok (a==a' && (b==b' && c==c')) W:=by
 rw [run_equalIn_struct W (d+1) 40 _ _ (by kernel_rfl) (by kernel_rfl)]
 have p0: ∀ (x y z:Value) (W:World),(part 4 #[x,y,z] 0).run Tryd.prog W=.ok x W:=fun x y z W=>by kernel_rfl
 have p1: ∀ (x y z:Value) (W:World),(part 4 #[x,y,z] 1).run Tryd.prog W=.ok y W:=fun x y z W=>by kernel_rfl
 have p2: ∀ (x y z:Value) (W:World),(part 4 #[x,y,z] 2).run Tryd.prog W=.ok z W:=fun x y z W=>by kernel_rfl
 simp only [Program.fieldsOf,Tryd.underlying40]
 simp [Op.eqFields,p0,p1,p2,eqBw]
 cases a <;> cases a' <;> cases b <;> cases b' <;> cases c <;> cases c' <;> simp
structure Fd where
 fr:Int
 pw:Bool
 pu:Bool
 px:Bool
 g:Bool
 l:Bool
 d:Bool
deriving DecidableEq
abbrev Fd.val (s:Fd):Value:=.agg #[.int .i64 s.fr,.bool s.pw,.bool s.pu,.bool s.px,.bool s.g,.bool s.l,.bool s.d]
theorem qf0 (x0 x1 x2 x3 x4 x5 x6:Value) (W:World):(part 3 #[x0,x1,x2,x3,x4,x5,x6] 0).run Tryd.prog W=.ok x0 W:=by kernel_rfl
theorem qf1 (x0 x1 x2 x3 x4 x5 x6:Value) (W:World):(part 40 #[x0,x1,x2,x3,x4,x5,x6] 1).run Tryd.prog W=.ok (.agg #[x1,x2,x3]) W:=by kernel_rfl
theorem qf4 (x0 x1 x2 x3 x4 x5 x6:Value) (W:World):(part 4 #[x0,x1,x2,x3,x4,x5,x6] 4).run Tryd.prog W=.ok x4 W:=by kernel_rfl
theorem qf5 (x0 x1 x2 x3 x4 x5 x6:Value) (W:World):(part 4 #[x0,x1,x2,x3,x4,x5,x6] 5).run Tryd.prog W=.ok x5 W:=by kernel_rfl
theorem qf6 (x0 x1 x2 x3 x4 x5 x6:Value) (W:World):(part 4 #[x0,x1,x2,x3,x4,x5,x6] 6).run Tryd.prog W=.ok x6 W:=by kernel_rfl
set_option maxHeartbeats 1000000 in
theorem equalFd (d:Nat) (c c':Fd) (W:World):(Op.equalIn (d+3) 56 c.val c'.val).run Tryd.prog W=.ok (decide (c=c')) W:=by
 rw [run_equalIn_struct W (d+2) 56 _ _ (by kernel_rfl) (by kernel_rfl)]
 simp only [Program.fieldsOf,Tryd.underlying56]
 simp [Op.eqFields,qf0,qf1,qf4,qf5,qf6,eqIw,eqBw,eqPm]
 by_cases e:c=c'
 . subst e
   simp
 . rw [decide_eq_false e]
   obtain ⟨c0,c1,c2,c3,c4,c5,c6⟩:=c
   obtain ⟨d0,d1,d2,d3,d4,d5,d6⟩:=c'
   simp only [Fd.mk.injEq,not_and] at e
   simp only
   repeat (first | rfl | (split;(first | rfl | skip)))
   all_goals simp_all
theorem eqFd (c c':Fd) (W:World):(binOp .eql 56 c.val c'.val).run Tryd.prog W=.ok (.bool (decide (c=c'))) W:=by
 have:=equalFd 9997 c c' W
 simp only [binOp,Op.equal,Sem.run_bind]
 rw [show Op.maxDepth=9997+3 from rfl,this];rfl
end Go.Proofs.YtkiclbnbnjbcaaaDoor
namespace Go.Proofs.YtkiclbnbnjbcaaaDoor.Tt
theorem and_code (x u f:Bool):bits .and .i64 (codeV x u f) 1=0/\bits .and .i64 (codeV x u f+1) 1=1:=by cases x <;> cases u <;> cases f <;> decide
end Go.Proofs.YtkiclbnbnjbcaaaDoor.Tt
namespace Go.Proofs.YtkiclbnbnjbcaaaDoor.Tt
open Go.ChangeShapes Go.WideShapes Go.ChangeAt Go.RowKit Go.Maps
set_option linter.unusedSimpArgs false
set_option linter.unusedVariables false
set_option maxRecDepth 8000
theorem kw_start {m:Pm} {s:Ps} {kf z root:Nat} {M3 M4:Int->Int} {q3 q4:Nat} (so:Sound m s) (IN:InL s [kf,z]) (kt:KT [kf,z] kf 2 s.M M3) (hF:({ takeS s 0 [kf,z] with M:=M3,q:=q3 }:Ps).Fr root) (hz: ∀ i:Nat,i<512->i≠256->En M4 root i=0) (ho: ∀ f:Nat,f≠root-> ∀ j:Nat,j<512->En M4 f j=En M3 f j) (h6:En M4 root 256=packV true true false false false false false false (kf:Nat)) :
 Kw m root kf z { takeS ({ takeS s 0 [kf,z] with M:=M3,q:=q3 }:Ps) 0 [root] with M:=M4,q:=q4 } (tab1 root):=by
 obtain ⟨z',e,_,q2,q5⟩:=kt
 have ez:z=z':=by simpa using e
 subst ez
 have nk:kf≠root:=fun q=>hF.2 (by rw [<- q];simp)
 have nz:z≠root:=fun q=>hF.2 (by rw [<- q];simp)
 refine ⟨⟨h6,fun j a b=>hz j b (by omega),?_,fun j a b=> ?_,?_,fun j a b=> ?_⟩,fun l x e=> ?_,fun l x e=> ?_,fun q=> ?_,fun q=> ?_,so.fh kf (IN.2 kf (by simp)),so.fh z (IN.2 z (by simp))⟩
 . exact (ho kf nk 0 (by omega)).trans ((q2 0 (by omega)).trans (if_pos ⟨by omega,rfl⟩))
 . exact (ho kf nk j b).trans ((q2 j b).trans (if_neg (by omega)))
 . exact (ho z nz 0 (by omega)).trans ((q5 0 (by omega)).trans (if_pos ⟨by omega,rfl⟩))
 . exact (ho z nz j b).trans ((q5 j b).trans (if_neg (by omega)))
 . obtain ⟨_,_,r⟩:=tab1_is e
   exact nk (by omega)
 . obtain ⟨_,_,r⟩:=tab1_is e
   exact nz (by omega)
 . exact q.1.2 (by simp)
 . exact q.1.2 (by simp)
end Go.Proofs.YtkiclbnbnjbcaaaDoor.Tt
