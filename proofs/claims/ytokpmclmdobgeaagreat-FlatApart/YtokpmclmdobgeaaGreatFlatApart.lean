/- P19.3 in the law FlatApart: two models that are played by turns never see anything of one another. -/
import Derived.Test.YtokpmclmdobgeaaGreatRows
import Derived.ProofKit
import Derived.OpenShut
import Derived.Carry
import Derived.Test.YtokpmclmdobgeaaGreatJ1a
import Derived.Test.YtokpmclmdobgeaaGreatNWa
import Derived.Test.YtokpmclmdobgeaaGreatFWa
namespace Go.Proofs.YtokpmclmdobgeaaGreat.flatApart
open Go.ChangeShapes Go.WideShapes Go.ChangeAt Go.RowKit Go.Maps
set_option linter.unusedSimpArgs false
set_option linter.unusedVariables false
open Go.Proofs.YtokpmclmdobgeaaGreat.Ca (args_stay)
open Go.Proofs.YtokpmclmdobgeaaGreat.Fl
set_option maxRecDepth 8000 in
set_option maxHeartbeats 16000000 in
theorem walk (a0:Int) (w0:(Lit.int .i64 a0).wf=true) (p1:Option Addr) (n1 c1:Nat) (A1:Nat->Sp) (m1:n1<=maxLen) (p2:Option Addr) (n2 c2:Nat) (A2:Nat->Sp) (m2:n2<=maxLen) (w:World) (H1:IsSteps w p1 n1 A1) (H2:IsSteps w p2 n2 A2) :
 Calls Tryz.prog 3 #[.int .i64 a0,.slice p1 n1 c1,.slice p2 n2 c2] w (re (.bool true) w):=by
 have AW:Hid (∀ W:World,Calls Tryz.prog 5 #[] W (re (.bool true) W)):=awake_all
 have mm1:(n1:Int)<=9223372036854775807:=by
  have:maxLen<=9223372036854775807:=by decide +kernel
  omega
 have mm2:(n2:Int)<=9223372036854775807:=by
  have:maxLen<=9223372036854775807:=by decide +kernel
  omega
 have S1:Hid (IsSteps w p1 n1 A1):=H1
 have S2:Hid (IsSteps w p2 n2 A2):=H2
 clear H1 H2
 by_cases g0:a0<20
 . have d0:decide (a0<20)=true:=by simp [g0]
   go_enter Tryz.func3,Tryz.ntmps3
   go_wp2_with fail
   refine Calls.mono (AW.out _) ?_
   rintro e v9 ⟨rfl,hb⟩
   go_wp2_with fail
   go_returns
   exact ⟨rfl,hb⟩
 have d0:decide (a0<20)=false:=kg
 by_cases g1:150<a0
 . have d1:decide (150<a0)=true:=by simp [g1]
   go_enter Tryz.func3,Tryz.ntmps3
   go_wp2_with fail
   refine Calls.mono (AW.out _) ?_
   rintro e v9 ⟨rfl,hb⟩
   go_wp2_with fail
   go_returns
   exact ⟨rfl,hb⟩
 have d1:decide (150<a0)=false:=kg
 have B1:Hid (Calls Tryz.prog 6 #[.int .i64 a0,.int .i64 2,.int .i64 2] w fun e w'=> ∃ X:Mb,e=.returned (.tuple #[pp X.mb,.int .i64 0])/\T1 w w' X a0 (bootS a0 2 2)):=boot1 a0 (by omega) (by omega) w
 go_enter Tryz.func3,Tryz.ntmps3
 go_wp2_with fail
 refine Calls.mono B1.out ?_
 rintro e u0 ⟨X,rfl,t1⟩
 have B2:Hid (Calls Tryz.prog 6 #[.int .i64 a0,.int .i64 2,.int .i64 2] u0 fun e w'=> ∃ Y:Mb,e=.returned (.tuple #[pp Y.mb,.int .i64 0])/\T2 w w' X Y a0 (bootS a0 2 2) (bootS a0 2 2)):=boot2 a0 (by omega) (by omega) t1
 clear B1 t1
 go_wp2_with fail
 refine Calls.mono B2.out ?_
 rintro e u1 ⟨Y,rfl,t2⟩
 have B3:Hid (Calls Tryz.prog 6 #[.int .i64 a0,.int .i64 2,.int .i64 2] u1 fun e w'=> ∃ Z:Mb,e=.returned (.tuple #[pp Z.mb,.int .i64 0])/\TR w w' X Y Z a0 0 (bootS a0 2 2) (bootS a0 2 2) (bootS a0 2 2)):=boot3 a0 (by omega) (by omega) t2
 clear B2 t2
 go_wp2_with fail
 refine Calls.mono B3.out ?_
 rintro e u2 ⟨Z,rfl,t3⟩
 have E0:Hid (AP w u2 X Y Z a0 0 (bootS a0 2 2) (bootS a0 2 2)/\Hld 0 (bootS a0 2 2)/\Hld 0 (bootS a0 2 2)):=⟨t3,Hld.boot a0 (by omega),Hld.boot a0 (by omega)⟩
 clear B3 t3
 go_wp2_with fail
 go_loopw [13] (fun x W=> ∃ (k u:Nat) (a b:Sa),k<=40/\u<=3*k/\x=.int .i64 k/\AP w W X Y Z a0 u a b/\Hld k a/\Hld k b) (fun x _=>40-(intOf x).toNat)
 case atStart=>exact ⟨0,0,_,_,by omega,by omega,rfl,E0.out⟩
 case round =>
  obtain ⟨k,u,a,b,hk,hu,rfl,hR⟩:=hrel
  have E0:Hid (AP w wr X Y Z a0 u a b/\Hld k a/\Hld k b):=hR
  clear hR
  by_cases hk40:k<40
  . have d2:decide ((k:Int)<40)=true:=by simp;omega
    have KU1: ∃ u1:Nat,u1=u:=⟨_,rfl⟩
    by_cases hk2:k<n2
    rotate_left
    have d3:decide ((k:Int)<(n2:Int))=false:=kg
    obtain ⟨b1,hb1⟩: ∃ b1,b1=b:=⟨_,rfl⟩
    obtain ⟨u1,hu1⟩:=KU1
    obtain ⟨v1,hv1⟩: ∃ v1,v1=wr:=⟨_,rfl⟩
    have U1:u1<=3*k+1:=by omega
    subst hb1 hu1 hv1
    have E:Hid (AP w v1 X Y Z a0 u1 a b1/\Hld k a/\Hld (k+1) b1):=⟨E0.out.1,E0.out.2.1,E0.out.2.2.more (by omega)⟩
    clear E0
    rotate_left
    have d3:decide ((k:Int)<(n2:Int))=true:=kg
    obtain ⟨qg,qo,rfl,wfq,Cq⟩:=S2.out.at hk2
    generalize A2 k=qs at wfq Cq
    obtain ⟨qt,q0,q1,q2,q3,q4,q5⟩:=qs
    have Cq:Hid (∀ V,bc w V->qg<V.heap.size/\V.cell? ⟨qg,qo+k*7,none⟩=some (.bool qt)/\V.cell? ⟨qg,qo+k*7+1,none⟩=some (.int .u64 q0)/\V.cell? ⟨qg,qo+k*7+2,none⟩=some (.int .u64 q1)/\V.cell? ⟨qg,qo+k*7+3,none⟩=some (.int .u64 q2)/\V.cell? ⟨qg,qo+k*7+4,none⟩=some (.int .u64 q3)/\V.cell? ⟨qg,qo+k*7+5,none⟩=some (.int .u64 q4)/\V.cell? ⟨qg,qo+k*7+6,none⟩=some (.int .u64 q5)):=Cq
    have Fq:Hid ((⟨q0,q1,q2,q3,q4,q5⟩:Ca.Wd).wf):=wfq
    clear wfq
    cases qt
    rotate_left
    obtain ⟨b1,hb1⟩: ∃ b1,b1=b:=⟨_,rfl⟩
    obtain ⟨u1,hu1⟩:=KU1
    obtain ⟨v1,hv1⟩: ∃ v1,v1=wr:=⟨_,rfl⟩
    have U1:u1<=3*k+1:=by omega
    subst hb1 hu1 hv1
    have E:Hid (AP w v1 X Y Z a0 u1 a b1/\Hld k a/\Hld (k+1) b1):=⟨E0.out.1,E0.out.2.1,E0.out.2.2.more (by omega)⟩
    obtain ⟨qlb,qy0,qy1,qy2,qy3,qy4,qy5,qy6⟩:=Cq.out v1 E0.out.1.bel
    clear qy1 qy2 qy3 qy4 qy5 qy6
    clear E0 Cq Fq
    rotate_left
    rotate_left
    obtain ⟨o0,o1,o2,o3,o4,o5,b1,HB,DB⟩:=E0.out.2.2.do (by omega) Fq.out
    obtain ⟨u1,hu1⟩: ∃ u1,u1=u+1:=⟨_,rfl⟩
    have DY:Hid (Calls Tryz.prog 7 #[pp Y.mb,.agg #[.int .u64 q0,.int .u64 q1,.int .u64 q2,.int .u64 q3,.int .u64 q4,.int .u64 q5]] wr fun e w'=>e=.returned (.agg #[.int .i64 o0,.int .u64 o1,.int .i64 o2,.int .u64 o3,.int .i64 o4,.bool o5])/\AP w w' X Y Z a0 u1 a b1):=by
     rw [hu1];exact E0.out.1.doY6 (by omega) DB
    have U1:u1<=3*k+1:=by omega
    have HB:Hid (Hld k a/\Hld (k+1) b1):=⟨E0.out.2.1,HB⟩
    obtain ⟨qlb,qy0,qy1,qy2,qy3,qy4,qy5,qy6⟩:=Cq.out wr E0.out.1.bel
    clear DB E0 hu1 KU1
    focus
     go_wp2_with fail
     refine Calls.mono DY.out ?_
     rintro e v1 ⟨rfl,hv1⟩
     have E:Hid (AP w v1 X Y Z a0 u1 a b1/\Hld k a/\Hld (k+1) b1):=⟨hv1,HB.out⟩
     clear DY hv1 HB qy0 qy1 qy2 qy3 qy4 qy5 qy6 qlb Cq Fq
    all_goals (
     by_cases hk1:k<n1
     . have d1:decide ((n1:Int)<=(k:Int))=false:=by simp;omega
       obtain ⟨sg,so,rfl,wfs,Cs⟩:=S1.out.at hk1
       generalize A1 k=ss at wfs Cs
       obtain ⟨st,s0,s1,s2,s3,s4,s5⟩:=ss
       have Cs:Hid (∀ V,bc w V->sg<V.heap.size/\V.cell? ⟨sg,so+k*7,none⟩=some (.bool st)/\V.cell? ⟨sg,so+k*7+1,none⟩=some (.int .u64 s0)/\V.cell? ⟨sg,so+k*7+2,none⟩=some (.int .u64 s1)/\V.cell? ⟨sg,so+k*7+3,none⟩=some (.int .u64 s2)/\V.cell? ⟨sg,so+k*7+4,none⟩=some (.int .u64 s3)/\V.cell? ⟨sg,so+k*7+5,none⟩=some (.int .u64 s4)/\V.cell? ⟨sg,so+k*7+6,none⟩=some (.int .u64 s5)):=Cs
       have Fs:Hid ((⟨s0,s1,s2,s3,s4,s5⟩:Ca.Wd).wf):=wfs
       clear wfs
       cases st
       . obtain ⟨r0,r1,r2,r3,r4,r5,a',HA,DA⟩:=E.out.2.1.do (by omega) Fs.out
         have E2:Hid (AP w v1 X Y Z a0 (u1) a b1/\Hld (k+1) a'/\Hld (k+1) b1/\DoIs (⟨s0,s1,s2,s3,s4,s5⟩:Ca.Wd) a (Rv r0 r1 r2 r3 r4 r5) a'):=⟨E.out.1,HA,E.out.2.2,DA⟩
         obtain ⟨slb,sy0,sy1,sy2,sy3,sy4,sy5,sy6⟩:=Cs.out v1 E2.out.1.bel
         clear sy1 sy2 sy3 sy4 sy5 sy6
         clear HA DA E
         go_upto_region 19 with fail
         clear slb sy0
         have BV:Hid (bc w v1.drew):=below_drew E2.out.1.bel
         refine hda (fun cw=>bc w cw) BV.out fun hHeld=> ?_
         have KU:Hid (AP w v1.drew X Y Z a0 (u1) a b1):=E2.out.1.below (below_drew (Below.refl _ _))
         change Hid (AP w v1.drew X Y Z a0 (u1) a b1) at KU
         clear BV
         generalize v1.drew=U at hHeld KU |-
         refine wpAnyH_take (i:=0) (oi:=⟨some 107,_,_,_,_,none⟩) (v:= ?_) rfl kc kc kc (fun _ _ _ h=>h) (Or.inl ⟨by rfl,?_⟩) kj ?_
         rotate_left
         . exact kp
         try simp only [Act.put,zaa,zba,zca]
         refine wpAnyH_take (i:=1) (oi:=⟨some 108,_,_,_,_,none⟩) (v:= ?_) rfl kc kc kc (fun _ _ _ h=>h) (Or.inl ⟨by rfl,?_⟩) kj ?_
         rotate_left
         . exact kp
         try simp only [Act.put,zaa,zba,zca]
         refine wpAnyH_take (i:=2) (oi:=⟨some 109,_,_,_,_,none⟩) (v:= ?_) rfl kc kc kc (fun _ _ _ h=>h) (Or.inl ⟨by rfl,?_⟩) kj ?_
         rotate_left
         . exact kp
         try simp only [Act.put,zaa,zba,zca]
         refine wpAnyH_take (i:=3) (oi:=⟨some 110,_,_,_,_,none⟩) (v:=(.pointer (some ⟨sg,so+k*7,none⟩))) rfl kc kc kc (fun _ _ _ h=>h) (Or.inl ⟨by rfl,?_⟩) kj ?_
         . intro w hSw;(try dsimp only at hSw);have q9:True:=trivial;(try go_simp);(try simp [*])
         try simp only [Act.put,zaa,zba,zca]
         refine wpAnyH_take (i:=4) (oi:=⟨some 111,_,_,_,_,none⟩) (v:=(.pointer (some ⟨sg,so+k*7+1,none⟩))) rfl kc kc kc (fun _ _ _ h=>h) (Or.inl ⟨by rfl,?_⟩) kj ?_
         . exact ku1
         try simp only [Act.put,zaa,zba,zca]
         refine wpAnyH_take (i:=5) (oi:=⟨some 112,_,_,_,_,none⟩) (v:=(.agg #[.int .u64 s0,.int .u64 s1,.int .u64 s2,.int .u64 s3,.int .u64 s4,.int .u64 s5])) rfl kc kc kc (fun _ _ _ h=>h) (Or.inl ⟨by rfl,?_⟩) kj ?_
         . intro w hSw;(try dsimp only at hSw);obtain ⟨lb,y0,y1,y2,y3,y4,y5,y6⟩:=Cs.out w hSw;(try go_simp);(try simp [*])
         try simp only [Act.put,zaa,zba,zca]
         refine wpAnyH_take (i:=7) (oi:=⟨some 114,_,_,_,_,none⟩) (v:= ?_) rfl kc kc kc (fun _ _ _ h=>h) (Or.inl ⟨by rfl,?_⟩) kj ?_
         rotate_left
         . exact kp
         try simp only [Act.put,zaa,zba,zca]
         refine wpAnyH_take (i:=8) (oi:=⟨some 115,_,_,_,_,none⟩) (v:= ?_) rfl kc kc kc (fun _ _ _ h=>h) (Or.inl ⟨by rfl,?_⟩) kj ?_
         rotate_left
         . exact kp
         try simp only [Act.put,zaa,zba,zca]
         refine wpAnyH_take (i:=9) (oi:=⟨some 116,_,_,_,_,none⟩) (v:= ?_) rfl kc kc kc (fun _ _ _ h=>h) (Or.inl ⟨by rfl,?_⟩) kj ?_
         rotate_left
         . exact kp
         try simp only [Act.put,zaa,zba,zca]
         refine wpAnyH_take (i:=10) (oi:=⟨some 117,_,_,_,_,none⟩) (v:=(.pointer (some ⟨sg,so+k*7,none⟩))) rfl kc kc kc (fun _ _ _ h=>h) (Or.inl ⟨by rfl,?_⟩) kj ?_
         . intro w hSw;(try dsimp only at hSw);have q9:True:=trivial;(try go_simp);(try simp [*])
         try simp only [Act.put,zaa,zba,zca]
         refine wpAnyH_take (i:=11) (oi:=⟨some 118,_,_,_,_,none⟩) (v:=(.pointer (some ⟨sg,so+k*7+1,none⟩))) rfl kc kc kc (fun _ _ _ h=>h) (Or.inl ⟨by rfl,?_⟩) kj ?_
         . exact ku1
         try simp only [Act.put,zaa,zba,zca]
         refine wpAnyH_take (i:=12) (oi:=⟨some 119,_,_,_,_,none⟩) (v:=(.agg #[.int .u64 s0,.int .u64 s1,.int .u64 s2,.int .u64 s3,.int .u64 s4,.int .u64 s5])) rfl kc kc kc (fun _ _ _ h=>h) (Or.inl ⟨by rfl,?_⟩) kj ?_
         . intro w hSw;(try dsimp only at hSw);obtain ⟨lb,y0,y1,y2,y3,y4,y5,y6⟩:=Cs.out w hSw;(try go_simp);(try simp [*])
         try simp only [Act.put,zaa,zba,zca]
         have DX:Hid (Calls Tryz.prog 7 #[pp X.mb,.agg #[.int .u64 s0,.int .u64 s1,.int .u64 s2,.int .u64 s3,.int .u64 s4,.int .u64 s5]] U fun e w'=>e=.returned (.agg #[.int .i64 r0,.int .u64 r1,.int .i64 r2,.int .u64 r3,.int .i64 r4,.bool r5])/\TR w w' X Y Z a0 (u1+1) a' b1 a):=KU.out.do6 (by omega) E2.out.2.2.2
         refine rda 6 ⟨some 113,_,_,_,_,none⟩ rfl fun K hK=> ?_
         go_simp
         go_wp2_with (go_at_call 7;refine Calls.mono (DX.out) ?_;rintro e x1 ⟨rfl,hx1⟩)
         have E3:Hid (TR w x1 X Y Z a0 (u1+1) a' b1 a):=hx1
         have DZ:Hid (Calls Tryz.prog 7 #[pp Z.mb,.agg #[.int .u64 s0,.int .u64 s1,.int .u64 s2,.int .u64 s3,.int .u64 s4,.int .u64 s5]] x1 fun e w'=>e=.returned (.agg #[.int .i64 r0,.int .u64 r1,.int .i64 r2,.int .u64 r3,.int .i64 r4,.bool r5])/\TR w w' X Y Z a0 (u1+1+1) a' b1 a'):=hx1.doZ6 (by omega) E2.out.2.2.2
         refine hK.out _ _ E3.out.bel ?_
         clear hK K hHeld hx1
         intro hHeld
         try simp only [Act.put,zaa,zba,zca]
         refine rda 13 ⟨some 120,_,_,_,_,none⟩ rfl fun K hK=> ?_
         go_simp
         go_wp2_with (go_at_call 7;refine Calls.mono (DZ.out) ?_;rintro e x2 ⟨rfl,hx2⟩)
         have E4:Hid (TR w x2 X Y Z a0 (u1+1+1) a' b1 a'):=hx2
         refine hK.out _ _ E4.out.bel ?_
         clear hK K hHeld hx2
         intro hHeld
         try simp only [Act.put,zaa,zba,zca]
         refine wpAnyH_take (i:=14) (oi:=⟨some 121,_,_,_,_,none⟩) (v:=(.bool false)) rfl kc kc kc (fun _ _ _ h=>h) (Or.inl ⟨by rfl,?_⟩) kj ?_
         . intro w hSw;(try dsimp only at hSw);have q:=neR r0 r1 r2 r3 r4 r5 w;unfold Rv at q;(try go_simp);(try simp [*])
         try simp only [Act.put,zaa,zba,zca]
         clear hHeld
         refine wpAnyH_done kc ?_ _
         refine NoPanic.normal ?_
         have EF:Hid (AP w x2 X Y Z a0 (u1+1+1) a' b1/\Hld (k+1) a'/\Hld (k+1) b1):=⟨E4.out,E2.out.2.1,E2.out.2.2.1⟩
         clear E3 E4 E2 DX DZ KU
         go_wp2_with fail
         go_roundw
         case rel=>exact ⟨k+1,u1+1+1,a',b1,by omega,by omega,by go_num,EF.out⟩
         case measure=>simp [intOf];omega
       . have T1:Hid (Calls Tryz.prog 8 #[pp X.mb] v1 fun e w'=>e=.returned (.tuple #[.bool (Ca.tckB a.Q),.int .i64 0])/\TR w w' X Y Z a0 (u1+1) { a with Q:=Ca.tckS a.Q } b1 a):=E.out.1.tick E.out.2.1.good
         obtain ⟨slb,sy0,sy1,sy2,sy3,sy4,sy5,sy6⟩:=Cs.out v1 E.out.1.bel
         clear sy1 sy2 sy3 sy4 sy5 sy6
         obtain ⟨bq,hbq⟩: ∃ bq,Ca.tckB a.Q=bq:=⟨_,rfl⟩
         rw [hbq] at T1
         go_wp2_with fail
         refine Calls.mono T1.out ?_
         rintro e x1 ⟨rfl,hx1⟩
         have T2:Hid (Calls Tryz.prog 8 #[pp Z.mb] x1 fun e w'=>e=.returned (.tuple #[.bool (Ca.tckB a.Q),.int .i64 0])/\TR w w' X Y Z a0 (u1+1+1) { a with Q:=Ca.tckS a.Q } b1 { a with Q:=Ca.tckS a.Q }):=hx1.tickZ E.out.2.1.good
         rw [hbq] at T2
         clear T1 hx1 slb sy0
         go_wp2_with fail
         refine Calls.mono T2.out ?_
         rintro e x2 ⟨rfl,hx2⟩
         have EF:Hid (AP w x2 X Y Z a0 (u1+1+1) { a with Q:=Ca.tckS a.Q } b1/\Hld (k+1) { a with Q:=Ca.tckS a.Q }/\Hld (k+1) b1):=⟨hx2,E.out.2.1.tick,E.out.2.2⟩
         clear T2 hx2 E
         cases bq
         all_goals go_wp2_with fail
         all_goals go_roundw
         all_goals first | exact ⟨k+1,u1+1+1,_,b1,by omega,by omega,by go_num,EF.out⟩ | (simp [intOf];omega)
     . have d1:decide ((n1:Int)<=(k:Int))=true:=by simp;omega
       have EF:Hid (AP w v1 X Y Z a0 (u1) a b1/\Hld (k+1) a/\Hld (k+1) b1):=⟨E.out.1,E.out.2.1.more (by omega),E.out.2.2⟩
       clear E
       go_wp2_with fail
       go_roundw
       case rel=>exact ⟨k+1,u1,a,b1,by omega,by omega,by go_num,EF.out⟩
       case measure=>simp [intOf];omega)
  . have d2:decide ((k:Int)<40)=false:=by simp;omega
    go_wp2_with fail
    refine Calls.mono (AW.out _) ?_
    rintro e v1 ⟨rfl,hb⟩
    have E1:Hid (AP w v1 X Y Z a0 u a b/\a.Q.L.length<=16):=⟨E0.out.1.below hb,E0.out.2.1.good.few⟩
    have LX:Hid (Calls Tryz.prog 10 #[pp X.mb] v1 fun e w'=>(∃ p c,e=.returned (.slice p a.Q.L.length c)/\Ca.IsI w' p a.Q.L v1.heap.size)/\bc v1 w'):=E1.out.1.line
    clear hb E0
    go_wp2_with fail
    refine Calls.mono LX.out ?_
    rintro e v2 ⟨⟨pa,ca,rfl,ha⟩,hb⟩
    have E2:Hid (AP w v2 X Y Z a0 u a b/\a.Q.L.length<=16/\Ca.IsI v2 pa a.Q.L v1.heap.size):=⟨E1.out.1.below hb,E1.out.2,ha⟩
    have LZ:Hid (Calls Tryz.prog 10 #[pp Z.mb] v2 fun e w'=>(∃ p c,e=.returned (.slice p a.Q.L.length c)/\Ca.IsI w' p a.Q.L v2.heap.size)/\bc v2 w'):=E2.out.1.lineZ
    clear hb ha E1 LX
    go_wp2_with fail
    refine Calls.mono LZ.out ?_
    rintro e v3 ⟨⟨pz,cz,rfl,hz⟩,hb⟩
    have SM:Hid (Calls Tryz.prog 9 #[.slice pa a.Q.L.length ca,.slice pz a.Q.L.length cz] v3 (re (.bool true) v3)):=same_self pa pz ca cz a.Q.L _ _ E2.out.2.1 v3 (E2.out.2.2.below hb) hz
    have B3:Hid (bc w v3):=below_then E2.out.1.bel hb
    clear hb hz E2 LZ
    go_wp2_with fail
    refine Calls.mono SM.out ?_
    rintro e v4 ⟨rfl,hb⟩
    have B4:Hid (bc w v4):=below_then B3.out hb
    clear hb B3 SM
    go_wp2_with fail
    go_returns
    exact ⟨rfl,B4.out⟩
theorem own:ownKnob Tryz.prog.godebug=none:=kc
theorem laidOut:laidOutB Tryz.prog=true:=kc
set_option maxRecDepth 100000 in
theorem lifted (os:Os) (started:os.Started) (H:Type) (enc:TypeId × Value->H) :
 ReturnsInHanded {} Tryz.checked os 3 .any (Rows.flatApartSpec.pre6 enc Tryz.prog Tryz.f3 Rows.flatApartRow.domain false) (Rows.flatApartSpec.post enc Tryz.prog Tryz.f3 false true false false):=by
 refine returnsInHanded_of_change (C:=Tryz.checked) own started kc Tryz.func3
  (ChangeSpec.witness6 (enc:=enc) (C:=Tryz.checked) false ⟨#[],#[.int .i64 0,.slice none 0 0,.slice none 0 0],[]⟩ 8 kc kc kc kc) ?_
 intro W base args ds gs before hval0 hW hcnd _
 have hval: ∀ (j:Nat) t v,Tryz.f3.params[j]? =some t->args[j]? =some v->Value.okWide Tryz.prog W .any base t v:=hval0
 have hW':=hW
 obtain ⟨p,q,hA0,hV,hbef,hfz,hnd⟩:=hW
 have hA:DataW.TrodAll enc Tryz.prog W 0 (fun _=>true) true Tryz.f3.params.toList args.toList ds p:=hA0
 have hAk:=hA
 have hlt: ∀ x∈p,x.block<W.heap.size:=fun x hx=>hW'.lt x (by rw [hbef];exact List.mem_append_left _ hx)
 rw [Tryz.params3] at hA hval
 obtain ⟨v0,vs0,d0,ds0,p0,q0,hargs,rfl,hp0,h0,r0⟩:=trodAll_cons hA
 obtain ⟨v1,vs1,d1,ds1,p1,q1,rfl,rfl,hp1,h1,r1⟩:=trodAll_cons r0
 obtain ⟨v2,vs2,d2,ds2,p2,q2,rfl,rfl,hp2,h2,r2⟩:=trodAll_cons r1
 obtain ⟨rfl,rfl,hpz⟩:=trodAll_nil r2
 obtain rfl:args= #[v0,v1,v2]:=by cases args;simp_all
 obtain ⟨rfl,rfl⟩:=trodVars_none hV
 obtain ⟨a0,rfl,_,_,w0⟩:=open_int Tryz.underlying3 (hval 0 3 v0 rfl rfl) h0
 obtain ⟨p1,n1,c1,A1,rfl,m1,H1⟩:=open_steps (hval 1 22 v1 rfl rfl) h1
 obtain ⟨p2,n2,c2,A2,rfl,m2,H2⟩:=open_steps (hval 2 22 v2 rfl rfl) h2
 clear hA0 hval0
 refine (walk a0 w0 p1 n1 c1 A1 m1 p2 n2 c2 A2 m2 W H1 H2).mono fun e W' ⟨he,hg⟩=> ?_
 subst he
 exact ⟨_,rfl,⟨_,_,_,[],p,[],hW',(trodAll_cons_mk (shut_bool Tryz.underlying4 _) trodAll_mk0),args_stay laidOut hg kc hAk hlt,rfl,hg.frame _,fun h=>by cases h⟩⟩
theorem over:Rows.flatApartRow.holds Tryz.pinned (OpenSpec.ofChange Rows.flatApartSpec) :=
 OpenClaim.holds_of_wide 3 Tryz.f3 rfl rfl rfl rfl rfl rfl rfl ⟨rfl,rfl,rfl,rfl,rfl⟩ rfl rfl rfl rfl rfl kc Tryz.func3 (by kernel_rfl)
  (of_decide_eq_true kc) (by unfold Func.isWrapper;first | (rw [if_pos (by decide +kernel)];kernel_rfl) | (rw [if_neg (by decide +kernel)];exact ⟨rfl,rfl⟩))
  (fun os started H enc _=>lifted os started H enc)
theorem proved:Rows.FlatApartSaid :=
 over
#print axioms proved
end Go.Proofs.YtokpmclmdobgeaaGreat.flatApart
