/- P19.1 in the law FlatEnds: when all others have ended just the first one is left,and is charged for its root at least. -/
import Derived.Test.YtokpmclmdobgeaaGreatRows
import Derived.ProofKit
import Derived.OpenShut
import Derived.Carry
import Derived.Test.YtokpmclmdobgeaaGreatJ1e
import Derived.Test.YtokpmclmdobgeaaGreatNWe
import Derived.Test.YtokpmclmdobgeaaGreatFWe
namespace Go.Proofs.YtokpmclmdobgeaaGreat.flatEnds
open Go.ChangeShapes Go.WideShapes Go.ChangeAt Go.RowKit Go.Maps
set_option linter.unusedSimpArgs false
set_option linter.unusedVariables false
open Go.Proofs.YtokpmclmdobgeaaGreat.Ca (args_stay)
open Go.Proofs.YtokpmclmdobgeaaGreat.Fl
theorem now_at {L:List Int} (h:0<L.length):L[0]'h=Ca.nowV L:=by
 match L,h with
 | x :: r, _ => rfl
set_option maxRecDepth 8000 in
set_option maxHeartbeats 16000000 in
theorem walk (a0:Int) (w0:(Lit.int .i64 a0).wf=true) (p1:Option Addr) (n1 c1:Nat) (A1:Nat->Sp) (m1:n1<=maxLen) (w:World) (H1:IsSteps w p1 n1 A1) :
 Calls Tryz.prog 4 #[.int .i64 a0,.slice p1 n1 c1] w (re (.bool true) w):=by
 have AW:Hid (∀ W:World,Calls Tryz.prog 5 #[] W (re (.bool true) W)):=awake_all
 have mm1:(n1:Int)<=9223372036854775807:=by
  have:maxLen<=9223372036854775807:=by decide +kernel
  omega
 have S1:Hid (IsSteps w p1 n1 A1):=H1
 clear H1
 by_cases g0:a0<20
 . have d0:decide (a0<20)=true:=by simp [g0]
   go_enter Tryz.func4,Tryz.ntmps4
   go_wp2_with fail
   refine Calls.mono (AW.out _) ?_
   rintro e v9 ⟨rfl,hb⟩
   go_wp2_with fail
   go_returns
   exact ⟨rfl,hb⟩
 have d0:decide (a0<20)=false:=kg
 by_cases g1:150<a0
 . have d1:decide (150<a0)=true:=by simp [g1]
   go_enter Tryz.func4,Tryz.ntmps4
   go_wp2_with fail
   refine Calls.mono (AW.out _) ?_
   rintro e v9 ⟨rfl,hb⟩
   go_wp2_with fail
   go_returns
   exact ⟨rfl,hb⟩
 have d1:decide (150<a0)=false:=kg
 have B1:Hid (Calls Tryz.prog 6 #[.int .i64 a0,.int .i64 2,.int .i64 2] w fun e w'=> ∃ X:Mb,e=.returned (.tuple #[pp X.mb,.int .i64 0])/\ON w w' X a0 0 (bootS a0 2 2)):=ON.boot a0 (by omega) (by omega) w
 obtain ⟨m,hm⟩: ∃ m:Nat,m=16:=⟨_,rfl⟩
 go_enter Tryz.func4,Tryz.ntmps4
 go_wp2_with fail
 refine Calls.mono B1.out ?_
 rintro e u0 ⟨X,rfl,t1⟩
 have E0:Hid (ON w u0 X a0 0 (bootS a0 2 2)/\Hld 0 (bootS a0 2 2)):=⟨t1,Hld.boot a0 (by omega)⟩
 clear B1 t1
 go_wp2_with fail
 go_loopw [7] (fun x W=> ∃ (k:Nat) (s:Sa),k<=60/\x=.int .i64 k/\Hid (ON w W X a0 k s/\Hld k s)) (fun x _=>60-(intOf x).toNat)
 case atStart=>exact ⟨0,_,by omega,rfl,E0⟩
 case round =>
  clear E0
  obtain ⟨k,s,hk,rfl,hR⟩:=hrel
  by_cases hk1:k<n1
  rotate_left
  have d2:decide ((k:Int)<(n1:Int))=false:=kg
  rotate_left
  have d2:decide ((k:Int)<(n1:Int))=true:=kg
  by_cases hk60:k<60
  . have d3:decide ((k:Int)<60)=true:=by simp;omega
    obtain ⟨qg,qo,rfl,wfq,Cq⟩:=S1.out.at hk1
    generalize A1 k=qs at wfq Cq
    obtain ⟨qt,q0,q1,q2,q3,q4,q5⟩:=qs
    have Cq:Hid (∀ V,bc w V->qg<V.heap.size/\V.cell? ⟨qg,qo+k*7,none⟩=some (.bool qt)/\V.cell? ⟨qg,qo+k*7+1,none⟩=some (.int .u64 q0)/\V.cell? ⟨qg,qo+k*7+2,none⟩=some (.int .u64 q1)/\V.cell? ⟨qg,qo+k*7+3,none⟩=some (.int .u64 q2)/\V.cell? ⟨qg,qo+k*7+4,none⟩=some (.int .u64 q3)/\V.cell? ⟨qg,qo+k*7+5,none⟩=some (.int .u64 q4)/\V.cell? ⟨qg,qo+k*7+6,none⟩=some (.int .u64 q5)):=Cq
    have Fq:Hid ((⟨q0,q1,q2,q3,q4,q5⟩:Ca.Wd).wf):=wfq
    clear wfq
    cases qt
    . obtain ⟨r0,r1,r2,r3,r4,r5,s',HA,DA⟩:=hR.out.2.do (by omega) Fq.out
      have DX:Hid (Calls Tryz.prog 7 #[pp X.mb,.agg #[.int .u64 q0,.int .u64 q1,.int .u64 q2,.int .u64 q3,.int .u64 q4,.int .u64 q5]] wr fun e w'=>e=.returned (.agg #[.int .i64 r0,.int .u64 r1,.int .i64 r2,.int .u64 r3,.int .i64 r4,.bool r5])/\ON w w' X a0 (k+1) s'):=hR.out.1.do6 (by omega) DA
      have HA:Hid (Hld (k+1) s'):=HA
      obtain ⟨qlb,qy0,qy1,qy2,qy3,qy4,qy5,qy6⟩:=Cq.out wr hR.out.1.bel
      clear DA hR
      go_wp2_with fail
      refine Calls.mono DX.out ?_
      rintro e v1 ⟨rfl,hv1⟩
      have EF:Hid (ON w v1 X a0 (k+1) s'/\Hld (k+1) s'):=⟨hv1,HA.out⟩
      clear DX hv1 HA qy0 qy1 qy2 qy3 qy4 qy5 qy6 qlb Cq Fq
      go_wp2_with fail
      go_roundw
      case rel=>exact ⟨k+1,s',by omega,by go_num,EF⟩
      case measure=>simp [intOf];omega
    . have TX:Hid (Calls Tryz.prog 8 #[pp X.mb] wr fun e w'=>e=.returned (.tuple #[.bool (Ca.tckB s.Q),.int .i64 0])/\ON w w' X a0 (k+1) { s with Q:=Ca.tckS s.Q }):=hR.out.1.tick hR.out.2.good
      obtain ⟨qlb,qy0,qy1,qy2,qy3,qy4,qy5,qy6⟩:=Cq.out wr hR.out.1.bel
      clear qy1 qy2 qy3 qy4 qy5 qy6
      have HA:Hid (Hld (k+1) { s with Q:=Ca.tckS s.Q }):=hR.out.2.tick
      clear hR
      go_wp2_with fail
      refine Calls.mono TX.out ?_
      rintro e v1 ⟨rfl,hv1⟩
      have EF:Hid (ON w v1 X a0 (k+1) { s with Q:=Ca.tckS s.Q }/\Hld (k+1) { s with Q:=Ca.tckS s.Q }):=⟨hv1,HA.out⟩
      clear TX hv1 HA qy0 qlb Cq Fq
      go_wp2_with fail
      go_roundw
      case rel=>exact ⟨k+1,_,by omega,by go_num,EF⟩
      case measure=>simp [intOf];omega
  have d3:decide ((k:Int)<60)=false:=kg
  all_goals (
   have E0:Hid (ON w wr X a0 60 s/\Hld 60 s/\far s m+0<=33):=⟨hR.out.1.more (by omega),hR.out.2.more (by omega),by have:=far_bd s m;omega⟩
   clear hR
   go_wp2_with fail
   go_loopw [8] (fun x W=> ∃ (j:Nat) (s:Sa),j<=40/\x=.int .i64 j/\Hid (ON w W X a0 (60+j) s/\Hld 60 s/\far s m+j<=33)) (fun x _=>40-(intOf x).toNat)
   case atStart=>exact ⟨0,s,by omega,rfl,E0⟩
   case round =>
    clear E0 s
    obtain ⟨j,s,hj,rfl,hR⟩:=hrel
    have hj40:j<40:=by have:=hR.out.2.1.far m (by omega);have:=hR.out.2.2;omega
    have d2:decide ((j:Int)<40)=true:=kg
    have LX:Hid (Calls Tryz.prog 10 #[pp X.mb] wr fun e w'=>(∃ p c,e=.returned (.slice p s.Q.L.length c)/\Ca.IsI w' p s.Q.L wr.heap.size)/\bc wr w'):=hR.out.1.line
    have l16:s.Q.L.length<=16:=hR.out.2.1.good.few
    go_wp2_with fail
    refine Calls.mono LX.out ?_
    rintro e v1 ⟨⟨pa,ca,rfl,ha⟩,hb⟩
    have E1:Hid (ON w v1 X a0 (60+j) s/\Hld 60 s/\far s m+j<=33):=⟨hR.out.1.below hb,hR.out.2⟩
    clear ha hb LX hR
    by_cases hl:1<s.Q.L.length
    . have d3:decide ((1:Int)<(s.Q.L.length:Int))=true:=by simp;omega
      have E2:Hid (ONB w (v1.alloc (.cells #[.int .u64 13,.int .u64 0,.int .u64 0,.int .u64 0,.int .u64 0,.int .u64 0] 30)) X a0 (60+j) s v1.heap.size [.int .u64 13,.int .u64 0,.int .u64 0,.int .u64 0,.int .u64 0,.int .u64 0] 30/\Hld 60 s/\far s m+j<=33):=⟨E1.out.1.new [.int .u64 13,.int .u64 0,.int .u64 0,.int .u64 0,.int .u64 0,.int .u64 0] 30,E1.out.2⟩
      have LX:Hid (Calls Tryz.prog 10 #[pp X.mb] (v1.alloc (.cells #[.int .u64 13,.int .u64 0,.int .u64 0,.int .u64 0,.int .u64 0,.int .u64 0] 30)) fun e w'=>(∃ p c,e=.returned (.slice p s.Q.L.length c)/\Ca.IsI w' p s.Q.L (v1.alloc (.cells #[.int .u64 13,.int .u64 0,.int .u64 0,.int .u64 0,.int .u64 0,.int .u64 0] 30)).heap.size)/\bc (v1.alloc (.cells #[.int .u64 13,.int .u64 0,.int .u64 0,.int .u64 0,.int .u64 0,.int .u64 0] 30)) w'):=E2.out.1.on.line
      clear E1
      go_wp2_with fail
      generalize (v1.alloc (.cells #[.int .u64 13,.int .u64 0,.int .u64 0,.int .u64 0,.int .u64 0,.int .u64 0] 30))=V2 at E2 LX |-
      generalize v1.heap.size=bb at E2 LX |-
      refine Calls.mono LX.out ?_
      rintro e v3 ⟨⟨pz,cz,rfl,hz⟩,hb⟩
      have E3:Hid (ONB w v3 X a0 (60+j) s bb [.int .u64 13,.int .u64 0,.int .u64 0,.int .u64 0,.int .u64 0,.int .u64 0] 30/\Hld 60 s/\far s m+j<=33):=⟨E2.out.1.below hb,E2.out.2⟩
      obtain ⟨g,rfl,_,lg,cg0⟩:=hz 0 (by omega)
      have hn:s.Q.L[0]'(by omega)=Ca.nowV s.Q.L:=now_at (by omega)
      have cg:v3.cell? ⟨g,0,none⟩=some (.int .i64 (Ca.nowV s.Q.L)):=by rw [<- hn];exact cg0
      clear cg0 hn hz hb LX E2
      have lb:bb<v3.heap.size:=E3.out.1.blk.lt
      have tb:v3.there bb 0 6:=E3.out.1.blk.there
      obtain ⟨f0,f1,f2,f3,f4,f5⟩:v3.frozen? ⟨bb,0,none⟩=false/\v3.frozen? ⟨bb,1,none⟩=false/\v3.frozen? ⟨bb,2,none⟩=false/\v3.frozen? ⟨bb,3,none⟩=false/\v3.frozen? ⟨bb,4,none⟩=false/\v3.frozen? ⟨bb,5,none⟩=false:=by
       have q:=E3.out.1.blk
       exact ⟨q.free 0,q.free 1,q.free 2,q.free 3,q.free 4,q.free 5⟩
      by_cases hq:Ca.nowV s.Q.L=0
      . have HY:Hid (1<s.Q.L.length/\Ca.nowV s.Q.L=0):=⟨hl,hq⟩
        have d4:(Ca.nowV s.Q.L==0)=true:=by simp [hq]
        have d5:decide (Ca.nowV s.Q.L=0)=true:=by simp [hq]
        clear hq
        generalize Ca.nowV s.Q.L=nv at cg d4 d5
        have E4:Hid (ONB w v3 X a0 (60+j) s bb [.int .u64 13,.int .u64 0,.int .u64 0,.int .u64 0,.int .u64 0,.int .u64 0] 30):=E3.out.1
        clear f0 f1 f2 f3 f4 f5
        have N6:Hid ((#[.int .u64 14,.int .u64 0,.int .u64 0,.int .u64 0,.int .u64 0,.int .u64 0]:Array Value).all (fun x=>x.oneCell')=true):=by show _=true;simp [Value.oneCell']
        go_wp2_with (refine Qo.store_pat bb 0 #[.int .u64 14,.int .u64 0,.int .u64 0,.int .u64 0,.int .u64 0,.int .u64 0] rfl rfl tb kc N6.out ?_;have E5:Hid (ONB w (v3.setCells bb 0 [.int .u64 14,.int .u64 0,.int .u64 0,.int .u64 0,.int .u64 0,.int .u64 0]) X a0 (60+j) s bb [.int .u64 14,.int .u64 0,.int .u64 0,.int .u64 0,.int .u64 0,.int .u64 0] 30):=E4.out.put _ rfl;change wpList _ _ _ _ _ (v3.setCells bb 0 [.int .u64 14,.int .u64 0,.int .u64 0,.int .u64 0,.int .u64 0,.int .u64 0]) ;generalize v3.setCells bb 0 [.int .u64 14,.int .u64 0,.int .u64 0,.int .u64 0,.int .u64 0,.int .u64 0]=v4 at E5 |-;have E3:Hid (ONB w v4 X a0 (60+j) s bb [.int .u64 14,.int .u64 0,.int .u64 0,.int .u64 0,.int .u64 0,.int .u64 0] 30/\Hld 60 s/\far s m+j<=33):=⟨E5.out,E3.out.2⟩;clear E5 E4 cg lg lb tb d4 d5;obtain ⟨y0,y1,y2,y3,y4,y5⟩:v4.cell? ⟨bb,0,none⟩=some (.int .u64 14)/\v4.cell? ⟨bb,1,none⟩=some (.int .u64 0)/\v4.cell? ⟨bb,2,none⟩=some (.int .u64 0)/\v4.cell? ⟨bb,3,none⟩=some (.int .u64 0)/\v4.cell? ⟨bb,4,none⟩=some (.int .u64 0)/\v4.cell? ⟨bb,5,none⟩=some (.int .u64 0):=(by have q:=E3.out.1.blk;exact ⟨q.cell 0,q.cell 1,q.cell 2,q.cell 3,q.cell 4,q.cell 5⟩);have lb:bb<v4.heap.size:=E3.out.1.blk.lt)
        obtain ⟨r0,r1,r2,r3,r4,r5,s',HA,HF,DA⟩:=E3.out.2.1.yield m HY.out.2 HY.out.1
        have DX:Hid (Calls Tryz.prog 7 #[pp X.mb,.agg #[.int .u64 14,.int .u64 0,.int .u64 0,.int .u64 0,.int .u64 0,.int .u64 0]] v4 fun e w'=>e=.returned (.agg #[.int .i64 r0,.int .u64 r1,.int .i64 r2,.int .u64 r3,.int .i64 r4,.bool r5])/\ON w w' X a0 (60+j+1) s'):=E3.out.1.on.do6 (by omega) DA
        have HA:Hid (Hld 60 s'/\far s' m+(j+1)<=33):=⟨HA,by have:=E3.out.2.2;omega⟩
        refine Calls.mono DX.out ?_
        rintro e v5 ⟨rfl,hv5⟩
        have EF:Hid (ON w v5 X a0 (60+(j+1)) s'/\Hld 60 s'/\far s' m+(j+1)<=33):=⟨hv5,HA.out⟩
        clear DX hv5 HA E3
        go_wp2_with fail
        go_roundw
        case rel=>exact ⟨j+1,s',by omega,by go_num,EF⟩
        case measure=>simp [intOf];omega
      . have d4:(Ca.nowV s.Q.L==0)=false:=by simp [hq]
        have d5:decide (Ca.nowV s.Q.L=0)=false:=by simp [hq]
        obtain ⟨r0,r1,r2,r3,r4,r5,s',HA,HF,DA⟩:=E3.out.2.1.exit m (by omega) hq
        have DX:Hid (Calls Tryz.prog 7 #[pp X.mb,.agg #[.int .u64 13,.int .u64 0,.int .u64 0,.int .u64 0,.int .u64 0,.int .u64 0]] v3 fun e w'=>e=.returned (.agg #[.int .i64 r0,.int .u64 r1,.int .i64 r2,.int .u64 r3,.int .i64 r4,.bool r5])/\ON w w' X a0 (60+j+1) s'):=E3.out.1.on.do6 (by omega) DA
        have HA:Hid (Hld 60 s'/\far s' m+(j+1)<=33):=⟨HA,by have:=E3.out.2.2;omega⟩
        obtain ⟨y0,y1,y2,y3,y4,y5⟩:v3.cell? ⟨bb,0,none⟩=some (.int .u64 13)/\v3.cell? ⟨bb,1,none⟩=some (.int .u64 0)/\v3.cell? ⟨bb,2,none⟩=some (.int .u64 0)/\v3.cell? ⟨bb,3,none⟩=some (.int .u64 0)/\v3.cell? ⟨bb,4,none⟩=some (.int .u64 0)/\v3.cell? ⟨bb,5,none⟩=some (.int .u64 0):=by
         have q:=E3.out.1.blk
         exact ⟨q.cell 0,q.cell 1,q.cell 2,q.cell 3,q.cell 4,q.cell 5⟩
        clear hq f0 f1 f2 f3 f4 f5 tb
        generalize Ca.nowV s.Q.L=nv at cg d4 d5
        go_wp2_with fail
        refine Calls.mono DX.out ?_
        rintro e v5 ⟨rfl,hv5⟩
        have EF:Hid (ON w v5 X a0 (60+(j+1)) s'/\Hld 60 s'/\far s' m+(j+1)<=33):=⟨hv5,HA.out⟩
        clear DX hv5 HA E3
        go_wp2_with fail
        go_roundw
        case rel=>exact ⟨j+1,s',by omega,by go_num,EF⟩
        case measure=>simp [intOf];omega
    . have d3:decide ((1:Int)<(s.Q.L.length:Int))=false:=by simp;omega
      have E2:Hid (ON w v1 X a0 100 s/\Hld 60 s/\s.Q.L=[0]):=⟨E1.out.1.more (by omega),E1.out.2.1,E1.out.2.1.one hl⟩
      clear E1
      go_wp2_with fail
      go_loopw [10] (fun x W=> ∃ (j:Nat) (s:Sa),j<=16/\x=.int .u64 (65536*(j:Int))/\Hid (ON w W X a0 (100+j) s/\Hld 60 s/\s.Q.L=[0])) (fun x _=>1048576-(intOf x).toNat)
      case atStart=>exact ⟨0,s,by omega,rfl,E2⟩
      case round =>
       clear E2 d3 l16 hl hj40 d2
       obtain ⟨j,s,hj,rfl,hR⟩:=hrel
       by_cases hj16:j<16
       . have d2:decide (65536*(j:Int)<1048576)=true:=by simp;omega
         obtain ⟨p,hp⟩: ∃ p:Int,p=65536*(j:Int):=⟨_,rfl⟩
         rw [<- hp] at d2
         rw [<- hp]
         have HP:Hid (p=65536*(j:Int)/\0<=p/\p<1048576):=⟨hp,by omega,by omega⟩
         clear hp
         obtain ⟨r0,r1,r2,r3,r4,r5,s',HA,HF,DA⟩:=hR.out.2.1.drop (by omega) hR.out.2.2 p HP.out.2.1 HP.out.2.2
         have DX:Hid (Calls Tryz.prog 7 #[pp X.mb,.agg #[.int .u64 2,.int .u64 p,.int .u64 65536,.int .u64 0,.int .u64 0,.int .u64 0]] wr fun e w'=>e=.returned (.agg #[.int .i64 r0,.int .u64 r1,.int .i64 r2,.int .u64 r3,.int .i64 r4,.bool r5])/\ON w w' X a0 (100+j+1) s'):=hR.out.1.do6 (by omega) DA
         have HA:Hid (Hld 60 s'/\s'.Q.L=[0]):=⟨HA,HF⟩
         clear hR DA HF
         go_wp2_with fail
         refine Calls.mono DX.out ?_
         rintro e v5 ⟨rfl,hv5⟩
         have EF:Hid (ON w v5 X a0 (100+(j+1)) s'/\Hld 60 s'/\s'.Q.L=[0]):=⟨hv5,HA.out⟩
         clear DX hv5 HA
         go_wp2_with fail
         go_roundw
         case rel=>exact ⟨j+1,s',by omega,by (have hp:=HP.out;show _=Value.int .u64 (65536*((j:Int)+1));rw [show 65536*((j:Int)+1)=p+65536 by omega,(by rw [IntKind.wrap_u64];omega:IntKind.u64.wrap (p+65536)=p+65536)]),EF⟩
         case measure=>have hp:=HP.out;rw [(by rw [IntKind.wrap_u64];omega:IntKind.u64.wrap (p+65536)=p+65536)];simp [intOf];omega
       . have d2:decide (65536*(j:Int)<1048576)=false:=by simp;omega
         obtain ⟨n,hn,UX⟩:=hR.out.1.high hR.out.2.1
         have UX:Hid (Calls Tryz.prog 11 #[pp X.mb,.int .i64 0] wr (re (.int .i64 n) wr)):=UX
         have dn:decide (1<=n)=true:=by simp [hn]
         go_wp2_with fail
         refine Calls.mono UX.out ?_
         rintro e v1 ⟨rfl,hb⟩
         have E1:Hid (ON w v1 X a0 (100+j) s/\Hld 60 s/\s.Q.L=[0]):=⟨hR.out.1.below hb,hR.out.2⟩
         clear hb UX hR
         go_wp2_with fail
         refine Calls.mono (AW.out _) ?_
         rintro e v2 ⟨rfl,hb⟩
         have E2:Hid (ON w v2 X a0 (100+j) s/\Hld 60 s/\s.Q.L=[0]):=⟨E1.out.1.below hb,E1.out.2⟩
         have LX:Hid (Calls Tryz.prog 10 #[pp X.mb] v2 fun e w'=>(∃ p c,e=.returned (.slice p 1 c)/\Ca.IsI w' p [0] v2.heap.size)/\bc v2 w'):=by
          have q:=E2.out.1.line
          rw [E2.out.2.2] at q
          exact q
         clear hb E1
         go_wp2_with fail
         refine Calls.mono LX.out ?_
         rintro e v3 ⟨⟨pa,ca,rfl,ha⟩,hb⟩
         have sb:bc v3 (v3.alloc (.cells #[.int .i64 0] 3)):=baa
         have E3:Hid (ON w (v3.alloc (.cells #[.int .i64 0] 3)) X a0 (100+j) s/\Hld 60 s/\s.Q.L=[0]):=⟨(E2.out.1.below hb).below sb,E2.out.2⟩
         have SM:Hid (Calls Tryz.prog 9 #[.slice pa 1 ca,.slice (some ⟨v3.heap.size,0,none⟩) 1 1] (v3.alloc (.cells #[.int .i64 0] 3)) (re (.bool true) (v3.alloc (.cells #[.int .i64 0] 3)))):=same_self pa _ ca 1 [0] v2.heap.size v3.heap.size kh _ (ha.below sb) (by
          intro i hi
          obtain rfl:i=0:=by simp at hi;omega
          have q:Blk (v3.alloc (.cells #[.int .i64 0] 3)) v3.heap.size [.int .i64 0] 3:=Blk.made _ _ _
          exact ⟨v3.heap.size,rfl,Nat.le_refl _,q.lt,q.cell 0⟩)
         clear ha hb sb E2 LX
         go_wp2_with fail
         refine Calls.mono SM.out ?_
         rintro e v4 ⟨rfl,hb⟩
         have E4:Hid (ON w v4 X a0 (100+j) s/\Hld 60 s/\s.Q.L=[0]):=⟨E3.out.1.below hb,E3.out.2⟩
         have UX:Hid (Calls Tryz.prog 11 #[pp X.mb,.int .i64 1] v4 fun e w'=>e=.returned (.int .i64 (-1))/\w'=v4):=E4.out.1.gone E4.out.2.1 E4.out.2.2
         clear hb E3 SM
         go_wp2_with fail
         refine Calls.mono UX.out ?_
         rintro e v5 ⟨rfl,rfl⟩
         have B5:Hid (bc w v5):=E4.out.1.bel
         clear UX E4
         go_wp2_with fail
         go_returns
         exact ⟨rfl,B5.out⟩)
theorem own:ownKnob Tryz.prog.godebug=none:=kc
theorem laidOut:laidOutB Tryz.prog=true:=kc
set_option maxRecDepth 100000 in
theorem lifted (os:Os) (started:os.Started) (H:Type) (enc:TypeId × Value->H) :
 ReturnsInHanded {} Tryz.checked os 4 .any (Rows.flatEndsSpec.pre6 enc Tryz.prog Tryz.f4 Rows.flatEndsRow.domain false) (Rows.flatEndsSpec.post enc Tryz.prog Tryz.f4 false true false false):=by
 refine returnsInHanded_of_change (C:=Tryz.checked) own started kc Tryz.func4
  (ChangeSpec.witness6 (enc:=enc) (C:=Tryz.checked) false ⟨#[],#[.int .i64 0,.slice none 0 0],[]⟩ 8 kc kc kc kc) ?_
 intro W base args ds gs before hval0 hW hcnd _
 have hval: ∀ (j:Nat) t v,Tryz.f4.params[j]? =some t->args[j]? =some v->Value.okWide Tryz.prog W .any base t v:=hval0
 have hW':=hW
 obtain ⟨p,q,hA0,hV,hbef,hfz,hnd⟩:=hW
 have hA:DataW.TrodAll enc Tryz.prog W 0 (fun _=>true) true Tryz.f4.params.toList args.toList ds p:=hA0
 have hAk:=hA
 have hlt: ∀ x∈p,x.block<W.heap.size:=fun x hx=>hW'.lt x (by rw [hbef];exact List.mem_append_left _ hx)
 rw [Tryz.params4] at hA hval
 obtain ⟨v0,vs0,d0,ds0,p0,q0,hargs,rfl,hp0,h0,r0⟩:=trodAll_cons hA
 obtain ⟨v1,vs1,d1,ds1,p1,q1,rfl,rfl,hp1,h1,r1⟩:=trodAll_cons r0
 obtain ⟨rfl,rfl,hpz⟩:=trodAll_nil r1
 obtain rfl:args= #[v0,v1]:=by cases args;simp_all
 obtain ⟨rfl,rfl⟩:=trodVars_none hV
 obtain ⟨a0,rfl,_,_,w0⟩:=open_int Tryz.underlying3 (hval 0 3 v0 rfl rfl) h0
 obtain ⟨p1,n1,c1,A1,rfl,m1,H1⟩:=open_steps (hval 1 22 v1 rfl rfl) h1
 clear hA0 hval0
 refine (walk a0 w0 p1 n1 c1 A1 m1 W H1).mono fun e W' ⟨he,hg⟩=> ?_
 subst he
 exact ⟨_,rfl,⟨_,_,_,[],p,[],hW',(trodAll_cons_mk (shut_bool Tryz.underlying4 _) trodAll_mk0),args_stay laidOut hg kc hAk hlt,rfl,hg.frame _,fun h=>by cases h⟩⟩
theorem over:Rows.flatEndsRow.holds Tryz.pinned (OpenSpec.ofChange Rows.flatEndsSpec) :=
 OpenClaim.holds_of_wide 4 Tryz.f4 rfl rfl rfl rfl rfl rfl rfl ⟨rfl,rfl,rfl,rfl,rfl⟩ rfl rfl rfl rfl rfl kc Tryz.func4 (by kernel_rfl)
  (of_decide_eq_true kc) (by unfold Func.isWrapper;first | (rw [if_pos (by decide +kernel)];kernel_rfl) | (rw [if_neg (by decide +kernel)];exact ⟨rfl,rfl⟩))
  (fun os started H enc _=>lifted os started H enc)
theorem proved:Rows.FlatEndsSaid :=
 over
#print axioms proved
end Go.Proofs.YtokpmclmdobgeaaGreat.flatEnds
