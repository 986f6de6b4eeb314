import Derived.Test.YtokpmclmdobgeaaGreatKZe
import Derived.Test.YtokpmclmdobgeaaGreatJGe
import Derived.Test.YtokpmclmdobgeaaGreatJIe
import Derived.RegionTactic
import Derived.BigRegion
import Derived.Deep.DeepCutAuto
set_option linter.unusedSimpArgs false
set_option linter.unusedVariables false
set_option maxRecDepth 8000
set_option maxHeartbeats 8000000
open Go.ChangeShapes Go.WideShapes Go.ChangeAt Go.RowKit Go.Maps
namespace Go.Proofs.YtokpmclmdobgeaaGreat.Re
def IsLo (o:Nat) (w:World) (base:Nat) (p:Option Addr) (L:List Rg):Prop:= ∀ i,i<L.length-> ∃ g,p=some ⟨g,o,none⟩/\base<=g/\g<w.heap.size/\ ∀ j x,(L.getD i Rg.zero).enc[j]? =some x->w.cell? ⟨g,o+i*6+j,none⟩=some x
theorem IsLo.below {o:Nat} {w w':World} {base:Nat} {p:Option Addr} {L:List Rg} (h:IsLo o w base p L) (hb:bc w w'):IsLo o w' base p L:=fun i hi=>by
 obtain ⟨g,e,h1,h2,h3⟩:=h i hi
 exact ⟨g,e,h1,nla h2 hb.size,fun j x hx=>(hb.cell (p:=⟨g,o+i*6+j,none⟩) h2).trans (h3 j x hx)⟩
def LowLo (o:Nat) (w:World) (n:Nat) (p:Option Addr) (L:List Rg):Prop:= ∀ i,i<L.length-> ∃ g,p=some ⟨g,o,none⟩/\g<n/\ ∀ j x,(L.getD i Rg.zero).enc[j]? =some x->w.cell? ⟨g,o+i*6+j,none⟩=some x
theorem LowLo.low {o:Nat} {w w':World} {n:Nat} {p:Option Addr} {L:List Rg} (h:LowLo o w n p L) (hb:Below n w w'):LowLo o w' n p L:=fun i hi=>by
 obtain ⟨g,e,h2,h3⟩:=h i hi
 exact ⟨g,e,h2,fun j x hx=>(hb.cell (p:=⟨g,o+i*6+j,none⟩) h2).trans (h3 j x hx)⟩
theorem LowLo.weak {o:Nat} {w:World} {n m:Nat} {p:Option Addr} {L:List Rg} (h:LowLo o w n p L) (hb:n<=m):LowLo o w m p L:=fun i hi=>by
 obtain ⟨g,e,h2,h3⟩:=h i hi
 exact ⟨g,e,nla h2 hb,h3⟩
theorem IsLo.lowl {o:Nat} {w:World} {base n:Nat} {p:Option Addr} {L:List Rg} (h:IsLo o w base p L) (hn:w.heap.size<=n):LowLo o w n p L:=fun i hi=>by
 obtain ⟨g,e,h1,h2,h3⟩:=h i hi
 exact ⟨g,e,nla h2 hn,h3⟩
theorem good_o (o base:Nat) (p:Option Addr) (c:Nat) (L:List Rg) (hL:L.length<=100) (w:World) (h:IsLo o w base p L) :
 Calls Tryz.prog 111 #[.slice p L.length c] w (re (.bool (goodB L)) w):=by
 obtain ⟨z,hz⟩: ∃ z,goodB L=z:=⟨_,rfl⟩
 rw [hz]
 have HZ:Hid (goodB L=z):=hz
 have HI:Hid (IsLo o w base p L):=h
 have MK:Hid (∀ (a b:Rg) (W:World),Calls Tryz.prog 113 #[a.val,b.val] W (re (.bool (a.joins b)) W)):=make_any
 clear hz h
 by_cases big:64<L.length
 . have hd0:decide (64<(L.length:Int))=true:=by simp;omega
   obtain rfl:z=false:=by
    rw [<- HZ.out];unfold goodB
    rw [show decide (L.length<=64)=false by simp;omega];rfl
   go_enter Tryz.func111,Tryz.ntmps111
   go_wp2_with fail
   go_ret
   exact ⟨rfl,Below.refl _ _⟩
 have hd0:decide (64<(L.length:Int))=false:=kg
 have ZA:Hid (z=allB (okAt L) L.length):=by
  show _=_
  rw [<- HZ.out];unfold goodB
  rw [show decide (L.length<=64)=true by simp;omega];rfl
 clear HZ
 go_enter Tryz.func111,Tryz.ntmps111
 go_wp2_with fail
 go_loopw [3,11] (fun en x W=> ∃ (m:Nat) (e:Int),m<=L.length/\en=.int .i64 e/\x=.int .i64 m/\Hid (e=endAt L m)/\Hid (∀ j,j<m->okAt L j=true)/\Hid (IsLo o W base p L)/\Hid (bc w W)) (fun _ x _=>L.length-(intOf x).toNat)
 case atStart=>exact ⟨0,0,by omega,rfl,rfl,rfl,fun j hj=>absurd hj (Nat.not_lt_zero _),HI,Below.refl _ _⟩
 case round =>
  obtain ⟨m,e,hm,rfl,rfl,hE,hG,hI,hb⟩:=hrel
  by_cases hlm:m<L.length
  . have hd:decide ((m:Int)<(L.length:Int))=true:=by simp;omega
    obtain ⟨g,rfl,g1,g2,gc⟩:=hI.out m hlm
    have NO:Hid (okAt L m=false->z=false):=fun h=>by rw [ZA.out];exact allB_no _ _ m hlm h
    have YES:Hid (okAt L m=true-> ∀ j,j<m+1->okAt L j=true):=fun h j hj=>by
     by_cases c:j=m
     . subst c;exact h
     . exact hG.out j (by omega)
    have OK:Hid (okAt L m=(okR e (L.getD m Rg.zero) && !(jnAt L m))):=by show _=_;unfold okAt;rw [hE.out]
    have EN:Hid (endAt L (m+1)=(L.getD m Rg.zero).tt):=rfl
    have JN:Hid (∀ n,m=n+1->jnAt L m=(L.getD n Rg.zero).joins (L.getD m Rg.zero)):=fun n e=>by subst e;rfl
    have J0:Hid (m=0->jnAt L m=false):=fun e=>by subst e;rfl
    generalize L.getD m Rg.zero=rr at gc OK EN JN
    obtain ⟨r1,r2,r3,r4,r5,r6⟩:=rr
    have y0:wr.cell? ⟨g,o+m*6,none⟩=some (.int .i64 r1):=gc 0 _ rfl
    have y1:wr.cell? ⟨g,o+m*6+1,none⟩=some (.int .i64 r2):=gc 1 _ rfl
    have y2:wr.cell? ⟨g,o+m*6+2,none⟩=some (.bool r3):=gc 2 _ rfl
    have y3:wr.cell? ⟨g,o+m*6+3,none⟩=some (.bool r4):=gc 3 _ rfl
    have y4:wr.cell? ⟨g,o+m*6+4,none⟩=some (.bool r5):=gc 4 _ rfl
    have y5:wr.cell? ⟨g,o+m*6+5,none⟩=some (.int .i64 r6):=gc 5 _ rfl
    clear gc
    unfold okR at OK
    simp only at OK EN
    generalize jnAt L m=jn at OK JN J0
    by_cases c1:r1<e
    . have d1:decide (r1<e)=true:=by simp [c1]
      obtain rfl:z=false:=NO.out (by rw [OK.out];simp [d1])
      clear OK NO YES JN J0 EN
      go_wp2_with fail
      go_ret
      exact ⟨rfl,below_new hb.out _⟩
    have d1:decide (r1<e)=false:=by simp [c1]
    by_cases c2:r1<r2
    rotate_left
    . have d2:decide (r2<=r1)=true:=by simp;omega
      obtain rfl:z=false:=NO.out (by rw [OK.out];simp [c2])
      clear OK NO YES JN J0 EN
      go_wp2_with fail
      go_ret
      exact ⟨rfl,below_new hb.out _⟩
    have d2:decide (r2<=r1)=false:=kg
    by_cases c3:r2<=34359738368
    rotate_left
    . have d3:decide (34359738368<r2)=true:=by simp;omega
      obtain rfl:z=false:=NO.out (by rw [OK.out];simp [c3])
      clear OK NO YES JN J0 EN
      go_wp2_with fail
      go_ret
      exact ⟨rfl,below_new hb.out _⟩
    have d3:decide (34359738368<r2)=false:=kg
    have OK2:Hid (okAt L m= !jn):=by
     show _=_
     rw [OK.out];simp [c2,c3];omega
    clear OK c1 c2 c3
    by_cases m0:m=0
    . have dm:decide (0<(m:Int))=false:=by simp;omega
      have N2:=YES.out (by rw [OK2.out,J0.out m0];rfl)
      have M0:Hid (m=0):=m0
      clear m0
      have N3:Hid (∀ j,j<m+1->okAt L j=true):=N2
      clear N2 YES NO JN J0 OK2
      go_wp2_with fail
      refine wp_region_noPanic ?_
      refine wp_region_held_drew (S:=fun c=>c.cell? ⟨wr.heap.size,1,none⟩=some (.int .i64 r2)) kc ?_ (fun hHeld=> ?_)
      . simp
      refine tma 0 36 rfl ?_
      refine tla 1 37 (.bool false) rfl ?_ ?_
      . intro w hSw;(try dsimp only at hSw);go_simp;(try simp);(try (have:=M0.out;omega))
      refine tma 2 38 rfl ?_
      refine wpAnyH_take (i:=3) (oi:=⟨some 39,_,_,_,_,some (2,true)⟩) (v:=undef) rfl kc kc kc (fun _ _ _ h=>h) (Or.inr ⟨by rfl,rfl⟩) kj ?_
      try simp only [Act.put,zaa,zba,zca]
      refine wpAnyH_take (i:=4) (oi:=⟨some 40,_,_,_,_,some (2,true)⟩) (v:=undef) rfl kc kc kc (fun _ _ _ h=>h) (Or.inr ⟨by rfl,rfl⟩) kj ?_
      try simp only [Act.put,zaa,zba,zca]
      refine wpAnyH_take (i:=5) (oi:=⟨some 41,_,_,_,_,some (2,true)⟩) (v:=undef) rfl kc kc kc (fun _ _ _ h=>h) (Or.inr ⟨by rfl,rfl⟩) kj ?_
      try simp only [Act.put,zaa,zba,zca]
      refine wpAnyH_take (i:=6) (oi:=⟨some 42,_,_,_,_,some (2,true)⟩) (v:=undef) rfl kc kc kc (fun _ _ _ h=>h) (Or.inr ⟨by rfl,rfl⟩) kj ?_
      try simp only [Act.put,zaa,zba,zca]
      refine wpAnyH_take (i:=7) (oi:=⟨some 43,_,_,_,_,some (2,true)⟩) (v:=undef) rfl kc kc kc (fun _ _ _ h=>h) (Or.inr ⟨by rfl,rfl⟩) kj ?_
      try simp only [Act.put,zaa,zba,zca]
      refine wpAnyH_take (i:=8) (oi:=⟨some 44,_,_,_,_,some (2,true)⟩) (v:=undef) rfl kc kc kc (fun _ _ _ h=>h) (Or.inr ⟨by rfl,rfl⟩) kj ?_
      try simp only [Act.put,zaa,zba,zca]
      refine wpAnyH_take (i:=9) (oi:=⟨some 45,_,_,_,_,some (2,true)⟩) (v:=undef) rfl kc kc kc (fun _ _ _ h=>h) (Or.inr ⟨by rfl,rfl⟩) kj ?_
      try simp only [Act.put,zaa,zba,zca]
      refine tma 10 46 rfl ?_
      clear hHeld
      refine wpAnyH_done kc ?_ _
      refine NoPanic.normal ?_
      go_wp2_with fail
      go_roundw
      case rel=>exact ⟨m+1,r2,by omega,rfl,by go_num,EN.out.symm,N3,hI.out.below (below_drew baa),below_drew (below_new hb.out _)⟩
      case measure=>simp [intOf];omega
    . have dm:decide (0<(m:Int))=true:=by simp;omega
      obtain ⟨g',ge,_,g2',gc'⟩:=hI.out (m-1) (by omega)
      obtain rfl:g'=g:=by cases ge;rfl
      have jv:=JN.out (m-1) (by omega)
      generalize L.getD (m-1) Rg.zero=pp at gc' jv
      obtain ⟨q1,q2,q3,q4,q5,q6⟩:=pp
      have x0:wr.cell? ⟨g',o+(m-1)*6,none⟩=some (.int .i64 q1):=gc' 0 _ rfl
      have x1:wr.cell? ⟨g',o+(m-1)*6+1,none⟩=some (.int .i64 q2):=gc' 1 _ rfl
      have x2:wr.cell? ⟨g',o+(m-1)*6+2,none⟩=some (.bool q3):=gc' 2 _ rfl
      have x3:wr.cell? ⟨g',o+(m-1)*6+3,none⟩=some (.bool q4):=gc' 3 _ rfl
      have x4:wr.cell? ⟨g',o+(m-1)*6+4,none⟩=some (.bool q5):=gc' 4 _ rfl
      have x5:wr.cell? ⟨g',o+(m-1)*6+5,none⟩=some (.int .i64 q6):=gc' 5 _ rfl
      clear gc' g1
      have MJ:=MK.out ⟨q1,q2,q3,q4,q5,q6⟩ ⟨r1,r2,r3,r4,r5,r6⟩
      rw [<- jv] at MJ
      have MJ':Hid _:=MJ
      clear MJ jv JN J0
      go_wp2_with fail
      refine hda (fun c=>c.cell? ⟨wr.heap.size,0,none⟩=some (.int .i64 r1)/\c.cell? ⟨wr.heap.size,1,none⟩=some (.int .i64 r2)/\c.cell? ⟨wr.heap.size,2,none⟩=some (.bool r3)/\c.cell? ⟨wr.heap.size,3,none⟩=some (.bool r4)/\c.cell? ⟨wr.heap.size,4,none⟩=some (.bool r5)/\c.cell? ⟨wr.heap.size,5,none⟩=some (.int .i64 r6)/\c.cell? ⟨g',o+(m-1)*6,none⟩=some (.int .i64 q1)/\c.cell? ⟨g',o+(m-1)*6+1,none⟩=some (.int .i64 q2)/\c.cell? ⟨g',o+(m-1)*6+2,none⟩=some (.bool q3)/\c.cell? ⟨g',o+(m-1)*6+3,none⟩=some (.bool q4)/\c.cell? ⟨g',o+(m-1)*6+4,none⟩=some (.bool q5)/\c.cell? ⟨g',o+(m-1)*6+5,none⟩=some (.int .i64 q6)) (⟨by simp,by simp,by simp,by simp,by simp,by simp,(World.cell?_alloc_lt _ _ _ (by exact g2')).trans x0,(World.cell?_alloc_lt _ _ _ (by exact g2')).trans x1,(World.cell?_alloc_lt _ _ _ (by exact g2')).trans x2,(World.cell?_alloc_lt _ _ _ (by exact g2')).trans x3,(World.cell?_alloc_lt _ _ _ (by exact g2')).trans x4,(World.cell?_alloc_lt _ _ _ (by exact g2')).trans x5⟩) fun hHeld=> ?_
      refine tma 0 36 rfl ?_
      refine tla 1 37 (.bool true) rfl ?_ ?_
      . exact kn
      refine tma 2 38 rfl ?_
      refine wpAnyH_take (i:=3) (oi:=⟨some 39,_,_,_,_,some (2,true)⟩) (v:= ?_) rfl kc kc kc (fun _ _ _ h=>h) (Or.inl ⟨by rfl,?_⟩) kj ?_
      rotate_left
      . exact kp
      try simp only [Act.put,zaa,zba,zca]
      refine wpAnyH_take (i:=4) (oi:=⟨some 40,_,_,_,_,some (2,true)⟩) (v:= ?_) rfl kc kc kc (fun _ _ _ h=>h) (Or.inl ⟨by rfl,?_⟩) kj ?_
      rotate_left
      . exact kp
      try simp only [Act.put,zaa,zba,zca]
      refine wpAnyH_take (i:=5) (oi:=⟨some 41,_,_,_,_,some (2,true)⟩) (v:=.int .i64 ((m:Int)-1)) rfl kc kc kc (fun _ _ _ h=>h) (Or.inl ⟨by rfl,?_⟩) kj ?_
      . exact kq
      try simp only [Act.put,zaa,zba,zca]
      refine wpAnyH_take (i:=6) (oi:=⟨some 42,_,_,_,_,some (2,true)⟩) (v:=(.pointer (some ⟨g',o+(m-1)*6,none⟩))) rfl kc kc kc (fun _ _ _ h=>h) (Or.inl ⟨by rfl,?_⟩) kj ?_
      . exact kn
      try simp only [Act.put,zaa,zba,zca]
      refine wpAnyH_take (i:=7) (oi:=⟨some 43,_,_,_,_,some (2,true)⟩) (v:=.agg (s7 q1 q2 q3 q4 q5 q6)) rfl kc kc kc (fun _ _ _ h=>h) (Or.inl ⟨by rfl,?_⟩) kj ?_
      . exact kr
      try simp only [Act.put,zaa,zba,zca]
      refine wpAnyH_take (i:=8) (oi:=⟨some 44,_,_,_,_,some (2,true)⟩) (v:=.agg (s7 r1 r2 r3 r4 r5 r6)) rfl kc kc kc (fun _ _ _ h=>h) (Or.inl ⟨by rfl,?_⟩) kj ?_
      . exact kr
      try simp only [Act.put,zaa,zba,zca]
      have ID:Hid (IsLo o (wr.alloc (.cells (s7 r1 r2 r3 r4 r5 r6) 126)).drew base (some ⟨g',o,none⟩) L):=hI.out.below (below_drew baa)
      have BD:Hid (bc w (wr.alloc (.cells (s7 r1 r2 r3 r4 r5 r6) 126)).drew):=below_drew (below_new hb.out _)
      have lD:wr.heap.size<(wr.alloc (.cells (s7 r1 r2 r3 r4 r5 r6) 126)).drew.heap.size:=by show _<(World.alloc _ _).heap.size;simp
      clear hI hb y0 y1 y2 y3 y4 y5 x0 x1 x2 x3 x4 x5
      generalize (wr.alloc (.cells (s7 r1 r2 r3 r4 r5 r6) 126)).drew=U at ID BD lD hHeld |-
      refine rda 9 ⟨some 45,_,_,_,_,some (2,true)⟩ rfl fun K hK=> ?_
      go_simp
      go_wp2_with (go_at_call 113;refine (MJ'.out _).mono ?_;rintro e u3 ⟨rfl,hb3⟩)
      have I3:Hid (IsLo o u3 base (some ⟨g',o,none⟩) L):=ID.out.below hb3
      have B3:Hid (bc w u3):=below_then BD.out hb3
      have l3:wr.heap.size<u3.heap.size:=nla lD hb3.size
      obtain ⟨i0,i1,i2,i3,i4,i5,i6,i7,i8,i9,i10,i11⟩:=hHeld
      have hHeld3:u3.cell? ⟨wr.heap.size,1,none⟩=some (.int .i64 r2):=(hb3.cell (p:=⟨wr.heap.size,1,none⟩) lD).trans i1
      refine hK.out _ _ ⟨(hb3.cell (p:=⟨_,_,none⟩) (lD)).trans i0,(hb3.cell (p:=⟨_,_,none⟩) (lD)).trans i1,(hb3.cell (p:=⟨_,_,none⟩) (lD)).trans i2,(hb3.cell (p:=⟨_,_,none⟩) (lD)).trans i3,(hb3.cell (p:=⟨_,_,none⟩) (lD)).trans i4,(hb3.cell (p:=⟨_,_,none⟩) (lD)).trans i5,(hb3.cell (p:=⟨_,_,none⟩) ((Nat.lt_trans g2' lD))).trans i6,(hb3.cell (p:=⟨_,_,none⟩) ((Nat.lt_trans g2' lD))).trans i7,(hb3.cell (p:=⟨_,_,none⟩) ((Nat.lt_trans g2' lD))).trans i8,(hb3.cell (p:=⟨_,_,none⟩) ((Nat.lt_trans g2' lD))).trans i9,(hb3.cell (p:=⟨_,_,none⟩) ((Nat.lt_trans g2' lD))).trans i10,(hb3.cell (p:=⟨_,_,none⟩) ((Nat.lt_trans g2' lD))).trans i11⟩ (fun hHeld=> ?_)
      clear hK K i0 i1 i2 i3 i4 i5 i6 i7 i8 i9 i10 i11 hb3 ID BD lD
      try simp only [Act.put,zaa,zba,zca]
      refine tma 10 46 rfl ?_
      clear hHeld
      refine wpAnyH_done kc ?_ _
      refine NoPanic.normal ?_
      cases jn
      . have N3:Hid (∀ j,j<m+1->okAt L j=true):=YES.out (by rw [OK2.out];rfl)
        have cN:Hid (u3.cell? ⟨wr.heap.size,1,none⟩=some (.int .i64 r2)):=hHeld3
        have x1':=cN.out
        go_wp2_with fail
        go_roundw
        case rel=>exact ⟨m+1,r2,by omega,rfl,by go_num,EN.out.symm,N3,I3.out,B3.out⟩
        case measure=>simp [intOf];omega
      . obtain rfl:z=false:=NO.out (by rw [OK2.out];rfl)
        go_wp2_with fail
        go_ret
        exact ⟨rfl,B3.out⟩
  . obtain rfl:m=L.length:=by omega
    obtain rfl:z=true:=by rw [ZA.out];exact (allB_iff _ _).2 hG.out
    go_wp2_with fail
    go_ret
    exact ⟨rfl,hb.out⟩
theorem check_o (o base:Nat) (p:Option Addr) (c:Nat) (L:List Rg) (hL:L.length<=100) (f t:Int) (w:World) (h:IsLo o w base p L) :
 Calls Tryz.prog 94 #[.slice p L.length c,rgV f t] w (re (.int .i64 (checkN L f t)) w):=by
 have RA:Hid (∀ W:World,Calls Tryz.prog 110 #[rgV f t] W (re (.bool (rightB f t)) W)):=fun W=>right_any f t W
 have GA:Hid (∀ W:World,IsLo o W base p L->Calls Tryz.prog 111 #[.slice p L.length c] W (re (.bool (goodB L)) W)):=fun W h=>good_o o base p c L hL W h
 have HI:Hid (IsLo o w base p L):=h
 unfold checkN
 generalize rightB f t=z1 at RA |-
 generalize goodB L=z2 at GA |-
 clear h
 generalize L.length=n at GA |-
 cases z1
 . rw [if_neg (by simp)]
   go_enter Tryz.func94,Tryz.ntmps94
   go_wp2_with fail
   refine (RA.out _).mono ?_
   rintro e u1 ⟨rfl,hb1⟩
   have B1:Hid (bc w u1):=below_then baa hb1
   clear hb1
   go_wp2_with fail
   go_ret
   exact ⟨rfl,B1.out⟩
 . rw [if_pos rfl]
   cases z2
   all_goals
    go_enter Tryz.func94,Tryz.ntmps94
    go_wp2_with fail
    refine (RA.out _).mono ?_
    rintro e u1 ⟨rfl,hb1⟩
    have B1:Hid (bc w u1):=below_then baa hb1
    clear hb1
    go_wp2_with fail
    refine (GA.out _ (HI.out.below B1.out)).mono ?_
    rintro e u2 ⟨rfl,hb2⟩
    have B2:Hid (bc w u2):=below_then B1.out hb2
    clear hb2
    go_wp2_with fail
    go_ret
    exact ⟨rfl,B2.out⟩
theorem change_cut_o (o:Nat) (p:Option Addr) (c:Nat) (L:List Rg) (hL:L.length<=100) (qf qt:Int) (w:World) (h:LowLo o w w.heap.size p L) :
 Calls Tryz.prog 98 #[.slice p L.length c,rgV qf qt,.func (.func 99) #[] #[]] w fun e w'=> ∃ v er,e=.returned (.tuple #[v,.int .i64 er])/\Res w' w.heap.size v er (chg (fun _=>Rg.zero) qf qt L)/\bc w w':=by
 have HI:Hid (LowLo o w (w.heap.size+1) p L):=h.weak (by omega)
 have CM:Hid (∀ (a1 a2:Int) (W:World),Calls Tryz.prog 112 #[rgV a1 a2,rgV qf qt] W (re (rgV (max a1 qf) (min a2 qt)) W)):=fun a1 a2 W=>common_any a1 a2 qf qt W
 have WI:Hid (∀ (base:Nat) (v:Value) (M:List Rg),M.length<=1000-> ∀ (r:Rg) (W:World),base<=W.heap.size->OwnL W base v M->Calls Tryz.prog 96 #[v,r.val] W fun e w'=> ∃ v',e=.returned v'/\OwnL w' base v' (withL M r)/\WithK W w' v v'):=fun base v M hM r W hW ho=>with_any base v M hM r W hW ho
 have FY:Hid (∀ (q:Option Addr) (n d:Nat),n<=64-> ∀ W:World,Calls Tryz.prog 97 #[.slice q n d] W (re (.tuple #[.slice q n d,.int .i64 0]) W)):=fun q n d hn W=>few_yes q n d hn W
 have FN:Hid (∀ (q:Option Addr) (n d:Nat),64<n->n<=1000-> ∀ W:World,Calls Tryz.prog 97 #[.slice q n d] W (re (.tuple #[.slice none 0 0,.int .i64 4]) W)):=fun q n d hn hm W=>few_no q n d hn hm W
 have CL:Hid (∀ (r:Rg) (W:World),True->Calls Tryz.prog 99 #[r.val] W fun e w'=>e=.returned Rg.zero.val/\bc W w'):=fun r W _=>cut_cl r W
 have HK:Hid (∀ W:World,Below (w.heap.size+1) (w.alloc (.cells #[.int .i64 qf,.int .i64 qt] 66)) W->True):=fun _ _=>trivial
 have w0:Hid (LowLo o (w.alloc (.cells #[.int .i64 qf,.int .i64 qt] 66)) (w.heap.size+1) p L):=(h.low baa).weak (by omega)
 clear h HI
 obtain ⟨W0,hW0⟩: ∃ W0,w.alloc (.cells #[.int .i64 qf,.int .i64 qt] 66)=W0:=⟨_,rfl⟩
 rw [hW0] at w0 HK
 have Z0:Hid (W0.heap.size=w.heap.size+1/\bc w W0/\W0.cell? ⟨w.heap.size,0,none⟩=some (.int .i64 qf)/\W0.cell? ⟨w.heap.size,1,none⟩=some (.int .i64 qt)):=by
  show _/\_/\_/\_
  rw [<- hW0]
  exact ⟨by rw [World.size_alloc],baa,by simp,by simp⟩
 have HW0:Hid (w.alloc (.cells #[.int .i64 qf,.int .i64 qt] 66)=W0):=hW0
 clear hW0
 go_enter Tryz.func98,Tryz.ntmps98
 go_wp2_with fail
 go_loopw [8,16] (fun v x W=> ∃ m:Nat,m<=L.length/\x=.int .i64 m/\Hid (OwnL W (w.heap.size+1) v (chg (fun _=>Rg.zero) qf qt (L.take m)))/\Hid (Below (w.heap.size+1) W0 W)) (fun _ x _=>L.length-(intOf x).toNat)
 case atStart=>exact ⟨0,by omega,rfl,⟨by simp [chg],Or.inl ⟨rfl,rfl⟩⟩,by rw [HW0.out];exact Below.refl _ _⟩
 case round =>
  obtain ⟨m,hm,rfl,hO,hB⟩:=hrel
  by_cases hlm:m<L.length
  . have hd:decide ((m:Int)<(L.length:Int))=true:=by simp;omega
    obtain ⟨gl,rfl,gl1,gc⟩:=(w0.out.low hB.out) m hlm
    have NX:Hid (chg (fun _=>Rg.zero) qf qt (L.take (m+1))=part (fun _=>Rg.zero) qf qt (chg (fun _=>Rg.zero) qf qt (L.take m)) (L.getD m Rg.zero)):=chg_next _ qf qt L m hlm
    have LN:Hid ((chg (fun _=>Rg.zero) qf qt (L.take m)).length<=300):=Nat.le_trans (chg_len _ qf qt L m hm) (by omega)
    generalize L.getD m Rg.zero=rr at gc NX
    generalize chg (fun _=>Rg.zero) qf qt (L.take m)=M at hO NX LN
    obtain ⟨r1,r2,r3,r4,r5,r6⟩:=rr
    have y0:wr.cell? ⟨gl,o+m*6,none⟩=some (.int .i64 r1):=gc 0 _ rfl
    have y1:wr.cell? ⟨gl,o+m*6+1,none⟩=some (.int .i64 r2):=gc 1 _ rfl
    have y2:wr.cell? ⟨gl,o+m*6+2,none⟩=some (.bool r3):=gc 2 _ rfl
    have y3:wr.cell? ⟨gl,o+m*6+3,none⟩=some (.bool r4):=gc 3 _ rfl
    have y4:wr.cell? ⟨gl,o+m*6+4,none⟩=some (.bool r5):=gc 4 _ rfl
    have y5:wr.cell? ⟨gl,o+m*6+5,none⟩=some (.int .i64 r6):=gc 5 _ rfl
    clear gc
    have CR:Hid _:=CM.out r1 r2
    unfold part Rg.mid Rg.from Rg.upto at NX
    simp only at NX
    obtain ⟨am,ham⟩: ∃ x,min r2 qf=x:=⟨_,rfl⟩
    obtain ⟨mf,hmf⟩: ∃ x,max r1 qf=x:=⟨_,rfl⟩
    obtain ⟨mt,hmt⟩: ∃ x,min r2 qt=x:=⟨_,rfl⟩
    obtain ⟨bf,hbf⟩: ∃ x,max r1 qt=x:=⟨_,rfl⟩
    rw [ham,hbf] at NX
    rw [hmf,hmt] at CR
    have HAM:Hid (min r2 qf=am):=ham
    have HBF:Hid (max r1 qt=bf):=hbf
    clear ham hmf hmt hbf CM
    have b0:wr.cell? ⟨w.heap.size,0,none⟩=some (.int .i64 qf):=(hB.out.cell (p:=⟨w.heap.size,0,none⟩) kx).trans Z0.out.2.2.1
    have b1:wr.cell? ⟨w.heap.size,1,none⟩=some (.int .i64 qt):=(hB.out.cell (p:=⟨w.heap.size,1,none⟩) kx).trans Z0.out.2.2.2
    have lw:w.heap.size<wr.heap.size:=nla (by rw [Z0.out.1];omega) hB.out.size
    have KF:Hid (wr.cell? ⟨w.heap.size,0,none⟩=some (.int .i64 qf)/\wr.cell? ⟨w.heap.size,1,none⟩=some (.int .i64 qt)):=⟨b0,b1⟩
    obtain ⟨s,hs⟩: ∃ s,wr.heap.size=s:=⟨_,rfl⟩
    have HS:Hid (wr.heap.size=s):=hs
    clear hs b0 b1
    go_upto_region 5 with fail
    go_cut [11,12,13] (fun a b d wx=> ∃ A B D:Nat,a=.pointer (some ⟨A,0,none⟩)/\b=.pointer (some ⟨B,0,none⟩)/\d=.pointer (some ⟨D,0,none⟩)/\(wr.heap.size<A/\wr.heap.size<B/\wr.heap.size<D/\A≠B/\A≠D/\B≠D)/\wx=((((wr.alloc (.cells (s7 r1 r2 r3 r4 r5 r6) 126)).alloc (.cells (s7 r1 r2 r3 r4 r5 r6) 126)).alloc (.cells (s7 r1 r2 r3 r4 r5 r6) 126)).alloc (.cells (s7 r1 r2 r3 r4 r5 r6) 126)).drew/\A<=wr.heap.size+3/\B<=wr.heap.size+3/\D<=wr.heap.size+3)
    case first =>
     go_region
     all_goals (try go_wp2_with fail)
     all_goals go_meet
     all_goals exact ⟨_,_,_,rfl,rfl,rfl,⟨by omega,by omega,by omega,by omega,by omega,by omega⟩,rfl,by omega,by omega,by omega⟩
    case rest =>
     obtain ⟨A,B,D,rfl,rfl,rfl,⟨lA,lB,lD,nAB,nAD,nBD⟩,ewc,hA3,hB3,hD3⟩:=hcut
     have FS:Hid (wc.heap[wr.heap.size]? =some (.cells (s7 r1 r2 r3 r4 r5 r6) 126 (0,0))):=ky
     have FA:Hid (wc.heap[A]? =some (.cells (s7 r1 r2 r3 r4 r5 r6) 126 (0,0))):=ky
     have FB:Hid (wc.heap[B]? =some (.cells (s7 r1 r2 r3 r4 r5 r6) 126 (0,0))):=ky
     have FD:Hid (wc.heap[D]? =some (.cells (s7 r1 r2 r3 r4 r5 r6) 126 (0,0))):=ky
     have BW:Hid (bc wr wc):=by show Below _ _ _;rw [ewc];exact below_drew (below_new (Go.Joins.below_alloc3 _ _ _ _) _)
     clear ewc hA3 hB3 hD3
     have s0:wc.cell? ⟨wr.heap.size,0,none⟩=some (.int .i64 r1):=Go.Joins.cell_of_block FS.out 0
     have s1:wc.cell? ⟨wr.heap.size,1,none⟩=some (.int .i64 r2):=Go.Joins.cell_of_block FS.out 1
     have a1:wc.cell? ⟨A,1,none⟩=some (.int .i64 r2):=Go.Joins.cell_of_block FA.out 1
     have fa:wc.frozen? ⟨A,1,none⟩=false:=Go.Joins.unfrozen_of_block FA.out 1
     have p0:wc.cell? ⟨w.heap.size,0,none⟩=some (.int .i64 qf):=(BW.out.cell (p:=⟨w.heap.size,0,none⟩) lw).trans KF.out.1
     have p1:wc.cell? ⟨w.heap.size,1,none⟩=some (.int .i64 qt):=(BW.out.cell (p:=⟨w.heap.size,1,none⟩) lw).trans KF.out.2
     clear y0 y1 y2 y3 y4 y5
     go_wp2_with (refine min_pat (x:=.tmp 25) (y:=.tmp 27) r2 qf am HAM.out rfl rfl ?_)
     refine (CR.out _).mono ?_
     rintro e u1 ⟨rfl,hb1⟩
     have zs:=(grown_setCell1 wc A 1 (.int .i64 am)).size
     have GA:Hid (u1.heap[A]? =some (.cells (s7 r1 am r3 r4 r5 r6) 126 (0,0))):=(hb1.block A (nla (blk_lt FA.out) zs)).trans (set_same FA.out rfl)
     have GB:Hid (u1.heap[B]? =some (.cells (s7 r1 r2 r3 r4 r5 r6) 126 (0,0))):=(hb1.block B (nla (blk_lt FB.out) zs)).trans ((set_block (by omega)).trans FB.out)
     have GD:Hid (u1.heap[D]? =some (.cells (s7 r1 r2 r3 r4 r5 r6) 126 (0,0))):=(hb1.block D (nla (blk_lt FD.out) zs)).trans ((set_block (by omega)).trans FD.out)
     have GS:Hid (u1.heap[wr.heap.size]? =some (.cells (s7 r1 r2 r3 r4 r5 r6) 126 (0,0))):=(hb1.block _ (nla (blk_lt FS.out) zs)).trans ((set_block (by omega)).trans FS.out)
     have BU:Hid (bc wr u1):=below_then (BW.out.setCell (p:=⟨A,1,none⟩) (Nat.le_of_lt lA) _) hb1
     clear hb1 zs s0 s1 a1 fa p0 p1 FS FA FB FD BW
     have s0:u1.cell? ⟨wr.heap.size,0,none⟩=some (.int .i64 r1):=Go.Joins.cell_of_block GS.out 0
     have e0:u1.cell? ⟨B,0,none⟩=some (.int .i64 r1):=Go.Joins.cell_of_block GB.out 0
     have e1:u1.cell? ⟨B,1,none⟩=some (.int .i64 r2):=Go.Joins.cell_of_block GB.out 1
     have f0:u1.frozen? ⟨B,0,none⟩=false:=Go.Joins.unfrozen_of_block GB.out 0
     have f1:u1.frozen? ⟨B,1,none⟩=false:=Go.Joins.unfrozen_of_block GB.out 1
     have d0:u1.cell? ⟨D,0,none⟩=some (.int .i64 r1):=Go.Joins.cell_of_block GD.out 0
     have k0:u1.frozen? ⟨D,0,none⟩=false:=Go.Joins.unfrozen_of_block GD.out 0
     have p1:u1.cell? ⟨w.heap.size,1,none⟩=some (.int .i64 qt):=(BU.out.cell (p:=⟨w.heap.size,1,none⟩) lw).trans KF.out.2
     go_wp2_with (refine max_pat (x:=.tmp 38) (y:=.tmp 40) r1 qt bf HBF.out rfl rfl ?_)
     obtain ⟨X,hX⟩: ∃ X,((u1.setCell ⟨B,0,none⟩ (.int .i64 mf)).setCell ⟨B,1,none⟩ (.int .i64 mt)).setCell ⟨D,0,none⟩ (.int .i64 bf)=X:=⟨_,rfl⟩
     have XA:Hid (X.heap[A]? =some (.cells (s7 r1 am r3 r4 r5 r6) 126 (0,0))):=kz
     have XB:Hid (X.heap[B]? =some (.cells (s7 mf mt r3 r4 r5 r6) 126 (0,0))):=by show _=_;rw [<- hX,set_block (by omega)];exact set_same (set_same GB.out rfl) rfl
     have XD:Hid (X.heap[D]? =some (.cells (s7 bf r2 r3 r4 r5 r6) 126 (0,0))):=ka1
     have BX:Hid (bc wr X):=kb1
     rw [hX]
     clear hX GA GB GD GS BU s0 e0 e1 f0 f1 d0 k0 p1
     have NA:Hid (u8.ownBlock≠some A):=blk_ne (c:=0) hO.out (Nat.le_of_lt lA)
     have NB:Hid (u8.ownBlock≠some B):=blk_ne (c:=0) hO.out (Nat.le_of_lt lB)
     have ND:Hid (u8.ownBlock≠some D):=blk_ne (c:=0) hO.out (Nat.le_of_lt lD)
     have OU:Hid (OwnL X.drew (w.heap.size+1) u8 M):=OwnL.below hO.out (below_drew BX.out)
     have BB:Hid (Below (w.heap.size+1) W0 X.drew):=hB.out.trans (Go.Joins.below_le (below_drew BX.out) (by omega))
     have lAX:A<X.drew.heap.size:=blk_lt XA.out
     have lBX:B<X.drew.heap.size:=blk_lt XB.out
     have lDX:D<X.drew.heap.size:=blk_lt XD.out
     refine hda (fun c=>c.heap[A]? =some (.cells (s7 r1 am r3 r4 r5 r6) 126 (0,0))/\c.heap[B]? =some (.cells (s7 mf mt r3 r4 r5 r6) 126 (0,0))/\c.heap[D]? =some (.cells (s7 bf r2 r3 r4 r5 r6) 126 (0,0))) (⟨XA.out,XB.out,XD.out⟩) fun hHeld=> ?_
     refine tma 0 44 rfl ?_
     refine tla 1 45 (.agg (s7 r1 am r3 r4 r5 r6)) rfl ?_ ?_
     . exact kc1
     refine tma 3 47 rfl ?_
     refine tla 4 48 (.agg (s7 mf mt r3 r4 r5 r6)) rfl ?_ ?_
     . exact kd1
     refine tla 7 51 (.agg (s7 bf r2 r3 r4 r5 r6)) rfl ?_ ?_
     . exact ke1
     clear XA XB XD BX hO hB
     generalize X.drew=U at OU BB lAX lBX lDX hHeld |-
     have LENS:Hid (M.length<=1000/\(withL M ⟨r1,am,r3,r4,r5,r6⟩).length<=1000/\(withL (withL M ⟨r1,am,r3,r4,r5,r6⟩) Rg.zero).length<=1000):=by
      have k1:=LN.out
      have k2:=withL_len M ⟨r1,am,r3,r4,r5,r6⟩
      have k3:=withL_len (withL M ⟨r1,am,r3,r4,r5,r6⟩) Rg.zero
      exact ⟨by omega,by omega,by omega⟩
     refine rda 2 ⟨some 46,_,_,_,_,none⟩ rfl fun K hK=> ?_
     go_simp
     go_wp2_with (go_at_call 96;refine (WI.out (w.heap.size+1) u8 M LENS.out.1 ⟨r1,am,r3,r4,r5,r6⟩ _ (by omega) OU.out).mono ?_;rintro e u2 ⟨v1,rfl,ho,hk⟩)
     have Ou2:Hid (OwnL u2 (w.heap.size+1) v1 (withL M ⟨r1,am,r3,r4,r5,r6⟩)):=ho
     have Bu2:Hid (Below (w.heap.size+1) W0 u2):=BB.out.trans (hk.below OU.out (by omega))
     have xAu2:=(hk.block A lAX NA.out).trans hHeld.1
     have NAu2:Hid (v1.ownBlock≠some A):=hk.ne A lAX NA.out
     have xBu2:=(hk.block B lBX NB.out).trans hHeld.2.1
     have NBu2:Hid (v1.ownBlock≠some B):=hk.ne B lBX NB.out
     have xDu2:=(hk.block D lDX ND.out).trans hHeld.2.2
     have NDu2:Hid (v1.ownBlock≠some D):=hk.ne D lDX ND.out
     have zs:=hk.1.size
     have lAY:A<u2.heap.size:=nla lAX zs
     have lBY:B<u2.heap.size:=nla lBX zs
     have lDY:D<u2.heap.size:=nla lDX zs
     clear ho hk NA NB ND zs lAX lBX lDX OU BB
     have NA:Hid _:=NAu2.out
     have lAX:=lAY
     have NB:Hid _:=NBu2.out
     have lBX:=lBY
     have ND:Hid _:=NDu2.out
     have lDX:=lDY
     clear NAu2 lAY NBu2 lBY NDu2 lDY
     clear hHeld
     refine hK.out _ _ ⟨xAu2,xBu2,xDu2⟩ (fun hHeld=> ?_)
     clear hK K xAu2 xBu2 xDu2
     try simp only [Act.put,zaa,zba,zca]
     refine rda 5 ⟨some 49,_,_,_,_,none⟩ rfl fun K hK=> ?_
     go_simp
     go_wp2_with (go_at_call 99;refine (CL.out ⟨mf,mt,r3,r4,r5,r6⟩ _ (HK.out _ Bu2.out)).mono ?_;rintro e u3 ⟨rfl,hb3⟩)
     have Ou3:Hid (OwnL u3 (w.heap.size+1) v1 (withL M ⟨r1,am,r3,r4,r5,r6⟩)):=OwnL.below Ou2.out hb3
     have Bu3:Hid (Below (w.heap.size+1) W0 u3):=Bu2.out.trans (Go.Joins.below_le hb3 (by omega))
     have xAu3:=(hb3.block A lAX).trans hHeld.1
     have xBu3:=(hb3.block B lBX).trans hHeld.2.1
     have xDu3:=(hb3.block D lDX).trans hHeld.2.2
     have zs:=hb3.size
     have lAY:A<u3.heap.size:=nla lAX zs
     have lBY:B<u3.heap.size:=nla lBX zs
     have lDY:D<u3.heap.size:=nla lDX zs
     clear hb3 zs lAX lBX lDX Ou2 Bu2
     have lAX:=lAY
     have lBX:=lBY
     have lDX:=lDY
     clear lAY lBY lDY
     clear hHeld
     refine hK.out _ _ ⟨xAu3,xBu3,xDu3⟩ (fun hHeld=> ?_)
     clear hK K xAu3 xBu3 xDu3
     try simp only [Act.put,zaa,zba,zca]
     refine rda 6 ⟨some 50,_,_,_,_,none⟩ rfl fun K hK=> ?_
     go_simp
     go_wp2_with (go_at_call 96;refine (WI.out (w.heap.size+1) v1 (withL M ⟨r1,am,r3,r4,r5,r6⟩) LENS.out.2.1 Rg.zero _ (by omega) Ou3.out).mono ?_;rintro e u4 ⟨v2,rfl,ho,hk⟩)
     have Ou4:Hid (OwnL u4 (w.heap.size+1) v2 (withL (withL M ⟨r1,am,r3,r4,r5,r6⟩) Rg.zero)):=ho
     have Bu4:Hid (Below (w.heap.size+1) W0 u4):=Bu3.out.trans (hk.below Ou3.out (by omega))
     have xAu4:=(hk.block A lAX NA.out).trans hHeld.1
     have NAu4:Hid (v2.ownBlock≠some A):=hk.ne A lAX NA.out
     have xBu4:=(hk.block B lBX NB.out).trans hHeld.2.1
     have NBu4:Hid (v2.ownBlock≠some B):=hk.ne B lBX NB.out
     have xDu4:=(hk.block D lDX ND.out).trans hHeld.2.2
     have NDu4:Hid (v2.ownBlock≠some D):=hk.ne D lDX ND.out
     have zs:=hk.1.size
     have lAY:A<u4.heap.size:=nla lAX zs
     have lBY:B<u4.heap.size:=nla lBX zs
     have lDY:D<u4.heap.size:=nla lDX zs
     clear ho hk NA NB ND zs lAX lBX lDX Ou3 Bu3
     have NA:Hid _:=NAu4.out
     have lAX:=lAY
     have NB:Hid _:=NBu4.out
     have lBX:=lBY
     have ND:Hid _:=NDu4.out
     have lDX:=lDY
     clear NAu4 lAY NBu4 lBY NDu4 lDY
     clear hHeld
     refine hK.out _ _ ⟨xAu4,xBu4,xDu4⟩ (fun hHeld=> ?_)
     clear hK K xAu4 xBu4 xDu4
     try simp only [Act.put,zaa,zba,zca]
     refine rda 8 ⟨some 52,_,_,_,_,none⟩ rfl fun K hK=> ?_
     go_simp
     go_wp2_with (go_at_call 96;refine (WI.out (w.heap.size+1) v2 (withL (withL M ⟨r1,am,r3,r4,r5,r6⟩) Rg.zero) LENS.out.2.2 ⟨bf,r2,r3,r4,r5,r6⟩ _ (by omega) Ou4.out).mono ?_;rintro e u5 ⟨v3,rfl,ho,hk⟩)
     have Ou5:Hid (OwnL u5 (w.heap.size+1) v3 (withL (withL (withL M ⟨r1,am,r3,r4,r5,r6⟩) Rg.zero) ⟨bf,r2,r3,r4,r5,r6⟩)):=ho
     have Bu5:Hid (Below (w.heap.size+1) W0 u5):=Bu4.out.trans (hk.below Ou4.out (by omega))
     have xAu5:=(hk.block A lAX NA.out).trans hHeld.1
     have NAu5:Hid (v3.ownBlock≠some A):=hk.ne A lAX NA.out
     have xBu5:=(hk.block B lBX NB.out).trans hHeld.2.1
     have NBu5:Hid (v3.ownBlock≠some B):=hk.ne B lBX NB.out
     have xDu5:=(hk.block D lDX ND.out).trans hHeld.2.2
     have NDu5:Hid (v3.ownBlock≠some D):=hk.ne D lDX ND.out
     have zs:=hk.1.size
     have lAY:A<u5.heap.size:=nla lAX zs
     have lBY:B<u5.heap.size:=nla lBX zs
     have lDY:D<u5.heap.size:=nla lDX zs
     clear ho hk NA NB ND zs lAX lBX lDX Ou4 Bu4
     have NA:Hid _:=NAu5.out
     have lAX:=lAY
     have NB:Hid _:=NBu5.out
     have lBX:=lBY
     have ND:Hid _:=NDu5.out
     have lDX:=lDY
     clear NAu5 lAY NBu5 lBY NDu5 lDY
     clear hHeld
     refine hK.out _ _ ⟨xAu5,xBu5,xDu5⟩ (fun hHeld=> ?_)
     clear hK K xAu5 xBu5 xDu5
     try simp only [Act.put,zaa,zba,zca]
     refine tma 9 8 rfl ?_
     refine wpAnyH_done kc ?_ _
     refine NoPanic.normal ?_
     have N2:Hid (OwnL u5 (w.heap.size+1) v3 (chg (fun _=>Rg.zero) qf qt (L.take (m+1)))):=by show OwnL _ _ _ _;rw [NX.out];exact Ou5.out
     clear NX Ou5
     go_wp2_with fail
     go_roundw
     case rel=>exact ⟨m+1,by omega,by go_num,N2,Bu5⟩
     case measure=>simp [intOf];omega
  . obtain rfl:m=L.length:=by omega
    have O1:Hid (OwnL wr (w.heap.size+1) u8 (chg (fun _=>Rg.zero) qf qt L)):=by
     have:=hO.out
     rw [List.take_length] at this;exact this
    have LN:Hid ((chg (fun _=>Rg.zero) qf qt L).length<=300):=by
     have:=chg_len (fun _=>Rg.zero) qf qt L L.length (Nat.le_refl _)
     rw [List.take_length] at this;exact Nat.le_trans this (by omega)
    obtain ⟨q,d,ev,hq⟩:=own_read O1.out
    have BE:Hid (bc w wr):=Z0.out.2.1.trans (Go.Joins.below_le hB.out (by omega))
    obtain ⟨M,hM⟩: ∃ M,chg (fun _=>Rg.zero) qf qt L=M:=⟨_,rfl⟩
    rw [hM] at O1 LN ev
    have HM:Hid (chg (fun _=>Rg.zero) qf qt L=M):=hM
    clear hM
    clear hO hq
    obtain ⟨n,hn⟩: ∃ n,M.length=n:=⟨_,rfl⟩
    have HN:Hid (M.length=n):=hn
    rw [hn] at ev LN
    clear hn
    subst ev
    by_cases few:n<=64
    . go_wp2_with fail
      refine (FY.out _ _ _ few _).mono ?_
      rintro e u1 ⟨rfl,hb1⟩
      have B1:Hid (bc w u1):=below_then BE.out hb1
      have R1:Hid (Res u1 w.heap.size (.slice q n d) 0 M):=Or.inl ⟨by rw [HN.out];exact few,rfl,Go.Joins.ownsRow_le (OwnL.below O1.out hb1) (by omega)⟩
      clear hb1
      go_wp2_with fail
      go_returns
      exact ⟨.slice q n d,0,rfl,by rw [HM.out];exact R1.out,B1.out⟩
    . go_wp2_with fail
      refine (FN.out _ _ _ (by omega) (Nat.le_trans LN.out (by omega)) _).mono ?_
      rintro e u1 ⟨rfl,hb1⟩
      have B1:Hid (bc w u1):=below_then BE.out hb1
      have R1:Hid (Res u1 w.heap.size (.slice none 0 0) 4 M):=Or.inr ⟨by rw [HN.out];omega,rfl,rfl⟩
      clear hb1
      go_wp2_with fail
      go_returns
      exact ⟨.slice none 0 0,4,rfl,by rw [HM.out];exact R1.out,B1.out⟩
theorem cut_o (o base:Nat) (p:Option Addr) (c:Nat) (L:List Rg) (hL:L.length<=100) (qf qt:Int) (w:World) (h:IsLo o w base p L) :
 Calls Tryz.prog 78 #[.slice p L.length c,rgV qf qt] w fun e w'=> ∃ v er,e=.returned (.tuple #[v,.int .i64 er])/\Ans w' w.heap.size v er (checkN L qf qt) (chg (fun _=>Rg.zero) qf qt L)/\bc w w':=by
 have CK:Hid (∀ W:World,IsLo o W base p L->Calls Tryz.prog 94 #[.slice p L.length c,rgV qf qt] W (re (.int .i64 (checkN L qf qt)) W)):=fun W h=>check_o o base p c L hL qf qt W h
 have CC:Hid (∀ W:World,IsLo o W base p L->Calls Tryz.prog 98 #[.slice p L.length c,rgV qf qt,.func (.func 99) #[] #[]] W fun e w'=> ∃ v er,e=.returned (.tuple #[v,.int .i64 er])/\Res w' W.heap.size v er (chg (fun _=>Rg.zero) qf qt L)/\bc W w'):=fun W h=>change_cut_o o p c L hL qf qt W (h.lowl (Nat.le_refl _))
 have HI:Hid (IsLo o w base p L):=h
 clear h
 obtain ⟨E,hE⟩: ∃ E,checkN L qf qt=E:=⟨_,rfl⟩
 obtain ⟨M,hM⟩: ∃ M,chg (fun _=>Rg.zero) qf qt L=M:=⟨_,rfl⟩
 rw [hE] at CK |-
 rw [hM] at CC |-
 clear hE hM
 obtain ⟨n,hn⟩: ∃ n,L.length=n:=⟨_,rfl⟩
 rw [hn] at CK CC |-
 clear hn
 by_cases cz:E=0
 . subst cz
   go_enter Tryz.func78,Tryz.ntmps78
   go_wp2_with fail
   refine (CK.out _ (HI.out.below baa)).mono ?_
   rintro e u1 ⟨rfl,hb1⟩
   have b0:u1.cell? ⟨w.heap.size,0,none⟩=some (.int .i64 qf):=(hb1.cell (p:=⟨w.heap.size,0,none⟩) (by simp)).trans (by simp)
   have b1:u1.cell? ⟨w.heap.size,1,none⟩=some (.int .i64 qt):=(hb1.cell (p:=⟨w.heap.size,1,none⟩) (by simp)).trans (by simp)
   have lw:w.heap.size<u1.heap.size:=nla (by simp) hb1.size
   have B1:Hid (bc w u1):=below_then baa hb1
   clear hb1
   go_wp2_with fail
   refine (CC.out _ (HI.out.below B1.out)).mono ?_
   rintro e u2 ⟨v,er,rfl,hr,hb2⟩
   have B2:Hid (bc w u2):=below_then B1.out hb2
   have A2:Hid (Ans u2 w.heap.size v er 0 M):=Or.inr ⟨rfl,hr.weak (Nat.le_of_lt lw)⟩
   clear hr hb2
   go_wp2_with fail
   go_returns
   exact ⟨v,er,rfl,A2.out,B2.out⟩
 . have eb:(E==0)=false:=by simp [cz]
   have A1:Hid (∀ W:World,Ans W w.heap.size (.slice none 0 0) E E M):=fun W=>Or.inl ⟨cz,rfl,rfl⟩
   clear cz
   go_enter Tryz.func78,Tryz.ntmps78
   go_wp2_with fail
   refine (CK.out _ (HI.out.below baa)).mono ?_
   rintro e u1 ⟨rfl,hb1⟩
   have B1:Hid (bc w u1):=below_then baa hb1
   clear hb1
   go_wp2_with fail
   go_returns
   exact ⟨.slice none 0 0,E,rfl,A1.out _,B1.out⟩
end Go.Proofs.YtokpmclmdobgeaaGreat.Re
