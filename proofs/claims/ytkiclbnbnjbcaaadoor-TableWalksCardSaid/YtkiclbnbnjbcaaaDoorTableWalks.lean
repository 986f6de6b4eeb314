/- TableWalks: what a walk finds is what was mapped,and the kernel sees each frame. No condition. -/
import Derived.Test.YtkiclbnbnjbcaaaDoorRows
import Derived.Test.YtkiclbnbnjbcaaaDoorCards
import Derived.Test.YtkiclbnbnjbcaaaDoorTie
import Derived.ProofKit
import Derived.OpenShut
import Derived.Stop.Joined
import Derived.SevenTiedAt
import Derived.Test.YtkiclbnbnjbcaaaDoorMT
namespace Go.Proofs.YtkiclbnbnjbcaaaDoor.tableWalks
open Go.ChangeShapes Go.WideShapes Go.ChangeAt Go.RowKit
set_option linter.unusedSimpArgs false
set_option linter.unusedVariables false
open Go.Proofs.YtkiclbnbnjbcaaaDoor.Tt
set_option maxRecDepth 8000
theorem below_dr (W:World):Below W.heap.size W W.drew:=⟨rfl,rfl,rfl,Nat.le_refl _,fun _ _=>rfl⟩
theorem kx_drew (X:Nat->Prop) (W:World):Kx X W W.drew:=⟨rfl,rfl,rfl,Nat.le_refl _,fun _ _=>rfl⟩
theorem made_2 (w:World) (C D:List Value) (t s:TypeId):Blk ((w.alloc (.cells C.toArray t)).alloc (.cells D.toArray s)) w.heap.size C t/\Blk ((w.alloc (.cells C.toArray t)).alloc (.cells D.toArray s)) (w.heap.size+1) D s:=by
 have h:=Blk.made (w.alloc (.cells C.toArray t)) D s
 rw [World.size_alloc] at h
 exact ⟨(Blk.made w C t).below (Go.Joins.below_alloc1 _ _),h⟩
set_option maxHeartbeats 16000000 in
theorem walk (p0:Option Addr) (n0 c0:Nat) (A0:Nat->Ac) (m0:n0<=maxLen) (a1:Int) (w1:(Lit.int .u64 a1).wf=true) (s2:B3) (w:World) (ht:Tab w) (H0:IsActs w p0 n0 A0) :
 Calls Tryd.prog 4 #[.slice p0 n0 c0,.int .u64 a1,s2.val] w fun e w'=>e=.returned (.bool true)/\Below w.heap.size w w':=by
 have AW:Hid (∀ W:World,Tab W->Calls Tryd.prog 10 #[] W fun e w'=>e=.returned (.bool true)/\Below W.heap.size W w'):=fun W t=>awake_any W t
 have HT:Hid (Tab w):=ht
 have WP:Hid (0<w.heap.size):=ht.1
 obtain ⟨x,u,f⟩:=s2
 obtain ⟨a1n,a1x⟩:0<=a1/\a1<18446744073709551616:=by simp [Lit.wf,IntKind.min,IntKind.max,IntKind.signed,IntKind.bits] at w1;omega
 have A1:Hid (0<=a1/\a1<18446744073709551616):=⟨a1n,a1x⟩
 clear a1n a1x w1
 have HA:Hid (IsActs w p0 n0 A0):=H0
 have T1:Hid (Tab (w.alloc (.cells #[.bool x,.bool u,.bool f] 54))):=ht.below (Go.Joins.below_alloc1 _ _) ht.1
 have F0:Hid (Below w.heap.size w (w.alloc (.cells #[.bool x,.bool u,.bool f] 54))/\Blk (w.alloc (.cells #[.bool x,.bool u,.bool f] 54)) w.heap.size [.bool x,.bool u,.bool f] 54/\w.heap.size<(w.alloc (.cells #[.bool x,.bool u,.bool f] 54)).heap.size):=⟨Go.Joins.below_alloc1 _ _,Blk.made w [.bool x,.bool u,.bool f] 54,by rw [World.size_alloc];omega⟩
 clear ht H0
 go_enter Tryd.func4,Tryd.ntmps4
 go_upto_region 1 with fail
 generalize (w.alloc (.cells #[.bool x,.bool u,.bool f] 54))=wA at T1 F0 |-
 have PC:Hid _:=purse_ok wA T1.out 90 90 (by omega) (by omega) (by omega) (by omega)
 go_wp2_with fail
 refine Calls.mono PC.out ?_
 rintro e w1 ⟨rb,b,tb,rfl,hp1,hb1⟩
 obtain ⟨X,hX⟩: ∃ X:Nat->Prop,X=XW (fun j=>j<wA.heap.size) w1 (w1.alloc (.cells #[pp rb,pp b,pp tb,.int .i64 0] 27)):=⟨_,rfl⟩
 have F2:Hid (Pu X (w1.alloc (.cells #[pp rb,pp b,pp tb,.int .i64 0] 27)) (pm0 rb b tb 90) (ps0 (from1 90) 90)/\Blk (w1.alloc (.cells #[pp rb,pp b,pp tb,.int .i64 0] 27)) w1.heap.size [pp rb,pp b,pp tb,.int .i64 0] 27/\X w1.heap.size/\(∀ j,j<wA.heap.size->X j)/\Below wA.heap.size wA (w1.alloc (.cells #[pp rb,pp b,pp tb,.int .i64 0] 27))/\wA.heap.size<=w1.heap.size):=by
  refine ⟨by rw [hX];exact hp1.grow (Go.Joins.below_alloc1 _ _),Blk.made w1 [pp rb,pp b,pp tb,.int .i64 0] 27,by rw [hX];exact Or.inr ⟨Nat.le_refl _,by rw [World.size_alloc];omega⟩,fun j hj=>by rw [hX];exact Or.inl hj,below_then hb1 (Go.Joins.below_alloc1 _ _),hb1.size⟩
 clear hp1 hb1 hX PC
 go_upto_region 2 with fail
 generalize (w1.alloc (.cells #[pp rb,pp b,pp tb,.int .i64 0] 27))=w2 at F2 |-
 generalize w1.heap.size=B at F2 |-
 have XB:Hid (X B/\(∀ j,j<wA.heap.size->X j)):=⟨F2.out.2.2.1,F2.out.2.2.2.1⟩
 have L2:Hid (Below wA.heap.size wA w2):=F2.out.2.2.2.2.1
 have BL:Hid (wA.heap.size<=B):=F2.out.2.2.2.2.2
 have BB:Hid (Blk w2 B [pp rb,pp b,pp tb,.int .i64 0] 27):=F2.out.2.1
 have P0:Hid (Pu X w2 (pm0 rb b tb 90) (ps0 (from1 90) 90)):=F2.out.1
 have N0:Hid (Nums (pm0 rb b tb 90) (ps0 (from1 90) 90) 0 90 0 89):=nums0 (pm0 rb b tb 90) 90 90 (by omega) (by omega)
 clear F2
 have T2:Hid (Tab w2):=T1.out.below L2.out T1.out.1
 go_wp2_with fail
 refine Calls.mono (AW.out w2 T2.out) ?_
 rintro e wq ⟨rfl,hbq⟩
 have L2':Hid (Below wA.heap.size wA wq):=below_then L2.out hbq
 have BB':Hid (Blk wq B [pp rb,pp b,pp tb,.int .i64 0] 27):=BB.out.below hbq
 have P0':Hid (Pu X wq (pm0 rb b tb 90) (ps0 (from1 90) 90)):=P0.out.below hbq
 clear hbq L2 BB P0 T2
 have L2:=L2'
 have BB:=BB'
 have P0:=P0'
 have BBq:=BB'
 clear L2' BB' P0'
 have KC:Hid (Calls Tryd.prog 11 #[.agg #[pp rb,pp b,pp tb,.int .i64 0]] wq fun e w'=> ∃ kf z:Nat,e=.returned (.tuple #[.int .i64 kf,.int .i64 0])/\InL (ps0 (from1 90) 90) [kf,z]/\ ∃ M':Int->Int,Pu X w' (pm0 rb b tb 90) { takeS (ps0 (from1 90) 90) 0 [kf,z] with M:=M',q:=0+5000 }/\Kx X wq w'/\KT [kf,z] kf 2 (ps0 (from1 90) 90).M M'):=by
  have q:=kernel_small P0.out (by show (1:Int)<=90;omega) (by show (90:Int)<=512;omega) 0 (N0.out.box (by omega)) (by show 0<_;omega) (by rw [N0.out.room];show 1+((90:Int)+262143) / 262144<=90;omega)
  exact q
 have BX:=BB.out
 have x0:wq.cell? ⟨B,0,none⟩=some (pp rb):=BX.cell 0
 have x1:wq.cell? ⟨B,1,none⟩=some (pp b):=BX.cell 1
 have x2:wq.cell? ⟨B,2,none⟩=some (pp tb):=BX.cell 2
 have x3:wq.cell? ⟨B,3,none⟩=some (.int .i64 0):=BX.cell 3
 have lB:=BX.lt
 clear BX
 go_wp2_with fail
 refine Calls.mono KC.out ?_
 rintro e w3 ⟨kf,z,rfl,IN,M3,hp3,hk3,kt⟩
 have B3:Hid (Blk w3 B [pp rb,pp b,pp tb,.int .i64 0] 27):=BB.out.kx hk3 XB.out.1
 have kf6:kf<1048576:=by have:=P0.out.so.frb kf (IN.2 kf (by simp));omega
 have N3:Nums (pm0 rb b tb 90) _ 0 88 2 87:=N0.out.take P0.out.so IN M3 (0+5000)
 have RC:Hid (Calls Tryd.prog 13 #[.agg #[pp rb,pp b,pp tb,.int .i64 0],.int .i64 kf] w3 fun e w'=> ∃ root:Nat,e=.returned (.tuple #[.int .i64 root,.int .i64 0])/\Rooted2 kf X w3 (pm0 rb b tb 90) { takeS (ps0 (from1 90) 90) 0 [kf,z] with M:=M3,q:=0+5000 } 0 root w'):=by
  have q:=root_small hp3 0 (N3.box (by omega)) (by show (5000:Nat)<_;omega) (by rw [N3.room];omega) kf kf6
  exact q
 have HK3:Hid (Kx X wq w3):=hk3
 have HQ3:Hid (InL (ps0 (from1 90) 90) [kf,z]/\KT [kf,z] kf 2 (ps0 (from1 90) 90).M M3/\Sound (pm0 rb b tb 90) { takeS (ps0 (from1 90) 90) 0 [kf,z] with M:=M3,q:=0+5000 }/\Nums (pm0 rb b tb 90) { takeS (ps0 (from1 90) 90) 0 [kf,z] with M:=M3,q:=0+5000 } 0 88 2 87):=⟨IN,kt,hp3.so,N3⟩
 clear hp3 hk3 kt IN N3 kf6 BB x0 x1 x2 x3 lB KC N0
 have BB:=B3
 clear B3
 have BX:=BB.out
 have x0:w3.cell? ⟨B,0,none⟩=some (pp rb):=BX.cell 0
 have x1:w3.cell? ⟨B,1,none⟩=some (pp b):=BX.cell 1
 have x2:w3.cell? ⟨B,2,none⟩=some (pp tb):=BX.cell 2
 have x3:w3.cell? ⟨B,3,none⟩=some (.int .i64 0):=BX.cell 3
 have lB:=BX.lt
 clear BX
 go_wp2_with fail
 refine Calls.mono RC.out ?_
 rintro e w4 ⟨root,rfl,M4,hF,hp4,hk4,hz4,ho4,h6⟩
 have I0:Hid (WkO (pm0 rb b tb 90) root kf z X wq 0 (.slice (some ⟨w4.heap.size,0,none⟩) 0 0) (w4.alloc (.cells #[] 63))):=by
  obtain ⟨IN,kt,so3,N3⟩:=HQ3.out
  have IN4:InL { takeS (ps0 (from1 90) 90) 0 [kf,z] with M:=M3,q:=0+5000 } [root]:=⟨by simp,fun p hp=>by simp at hp;subst hp;exact hF⟩
  have N4:Nums (pm0 rb b tb 90) _ 0 87 3 86:=N3.take so3 IN4 M4 (0+5000+2)
  have R4:Rt (pm0 rb b tb 90) _ root (tab1 root) (fun _=>none):=rt_root (k:=0) (q:=0+5000+2) so3 hF hz4
  have K4:=kw_start (m:=(pm0 rb b tb 90)) (q3:=0+5000) (q4:=0+5000+2) P0.out.so IN kt hF hz4 ho4 h6
  have hb:Below w4.heap.size w4 (w4.alloc (.cells #[] 63)):=Go.Joins.below_alloc1 _ _
  have S4:St X (pm0 rb b tb 90) root 0 88 2 87 _ (tab1 root) (fun _=>none) w4:=⟨hp4,R4,by rw [pgs_none];exact N4,by rw [pgs_none];decide⟩
  refine ⟨XW X w4 (w4.alloc (.cells #[] 63)),_,tab1 root,fun _=>none,⟨S4.grow hb,some ⟨w4.heap.size,0,none⟩,0,by rw [lvs_none];rfl,⟨fun i hi=> ?_,fun q u e=>(by cases e),(by rw [pgs_none];simp)⟩,fun g o z e=>(by cases e;exact Or.inr ⟨Nat.le_refl _,by rw [World.size_alloc];omega⟩)⟩,by show (5002:Nat)<=_;omega,by rw [pgs_none];simp,K4,fun j hj=>Or.inl hj,HK3.out.trans (hk4.trans (Kx.of_below hp4 hb))⟩
  rw [lvs_none] at hi
  exact absurd hi (Nat.not_lt_zero _)
 clear hF hp4 hk4 hz4 ho4 h6 HQ3 HK3 BB P0 x0 x1 x2 x3 lB RC
 go_upto_region 9 with fail
 generalize (w4.alloc (.cells #[] 63))=w7 at I0 |-
 obtain ⟨v0,hv0⟩: ∃ v0,v0=Value.slice (some ⟨w4.heap.size,0,none⟩) 0 0:=⟨_,rfl⟩
 rw [<- hv0] at I0 |-
 clear hv0
 go_upto_block 0 with fail
 go_cut [13,14,15,16] (fun vl _ _ _ wx=>Hid (WkO (pm0 rb b tb 90) root kf z X wq 20 vl wx))
 case first =>
  go_wp2_with fail
  go_loopw [13,14,15,16] (fun vl vi _ _ W=> ∃ i:Nat,i<=n0/\i<=20/\vi=.int .i64 i/\Hid (WkO (pm0 rb b tb 90) root kf z X wq i vl W)) (fun _ vi _ _ _=>20-(Go.RowKit.intOf vi).toNat)
  case atStart=>exact ⟨0,by omega,by omega,rfl,I0⟩
  case round =>
   clear I0
   obtain ⟨i,hi,hi20,rfl,HP⟩:=hrel
   by_cases hlt:i<n0/\i<20
   rotate_left
   . have HE:Hid (WkO (pm0 rb b tb 90) root kf z X wq 20 u13 wr):=HP.out.more hi20
     have hd:(decide ((i:Int)<(n0:Int))=false/\ ¬ i<n0)\/(decide ((i:Int)<(n0:Int))=true/\decide ((i:Int)<20)=false/\i<n0/\ ¬ i<20):=by
      by_cases c:i<n0
      . right;simp;omega
      . left;simp;omega
     clear hlt HP
     rcases hd with ⟨hd,hn⟩ | ⟨hd,hd2,hn,hn2⟩
     . go_wp2_with fail
       go_meet
       exact HE
     . go_wp2_with fail
       go_meet
       exact HE
   obtain ⟨hlt,hlt2⟩:=hlt
   have LW:Hid (Below w.heap.size w wr):=by
    obtain ⟨Y,s,tab,lf,hW⟩:=HP.out
    have q:=hW.kx
    have L0:Below w.heap.size w wq:=below_then F0.out.1 L2.out
    exact L0.trans ⟨q.os,q.tape,q.output,q.size,fun j hj=>q.block j (XB.out.2 j (Nat.lt_trans hj F0.out.2.2))⟩
   have BB:Hid (Blk wr B [pp rb,pp b,pp tb,.int .i64 0] 27):=by
    obtain ⟨Y,s,tab,lf,hW⟩:=HP.out
    exact BBq.out.kx hW.kx XB.out.1
   have hd:decide ((i:Int)<(n0:Int))=true:=by simp;omega
   have hd2:decide ((i:Int)<20)=true:=by simp;omega
   have hd0:decide ((i:Int)<0)=false:=by simp
   obtain ⟨bq,oq,rfl,lq,y0,y1,y2,y3,y4,y5,gx⟩:=(HA.out.below LW.out) i hlt
   have XQ:Hid (X bq):=by
    obtain ⟨b',o',e',l',_⟩:=HA.out i hlt
    cases e'
    exact XB.out.2 _ (Nat.lt_trans l' F0.out.2.2)
   generalize A0 i=st at y0 y1 y2 y3 y4 y5 gx
   obtain ⟨kd,pg,fg,qa,qb,qc⟩:=st
   simp only at y0 y1 y2 y3 y4 y5 gx
   have SZ:Hid ((fun cw=>Blk cw B [pp rb,pp b,pp tb,.int .i64 0] 27/\cw.cell? ⟨bq,oq+i*6+0,none⟩=some (.int .i64 kd)/\cw.cell? ⟨bq,oq+i*6+1,none⟩=some (.int .i64 pg)/\cw.cell? ⟨bq,oq+i*6+2,none⟩=some (.int .i64 fg)/\cw.cell? ⟨bq,oq+i*6+3,none⟩=some (.bool qa)/\cw.cell? ⟨bq,oq+i*6+4,none⟩=some (.bool qb)/\cw.cell? ⟨bq,oq+i*6+5,none⟩=some (.bool qc)) wr):=⟨BB.out,y0,y1,y2,y3,y4,y5⟩
   clear y0 y1 y2 y3 y4 y5 gx BB LW
   have DC:Hid (∀ W:World,Below wr.heap.size wr W->Calls Tryd.prog 14 #[.agg #[pp rb,pp b,pp tb,.int .i64 0],.int .i64 root,u13,.agg #[.int .i64 kd,.int .i64 pg,.int .i64 fg,.bool qa,.bool qb,.bool qc],.int .i64 100] W fun e w'=> ∃ v',e=.returned (.tuple #[v',.bool true])/\WkO (pm0 rb b tb 90) root kf z X wq (i+1) v' w'/\Kx X W w'):=fun W hb=>by
    have q:=(HP.out.below hb).does hlt2 kd pg fg qa qb qc
    exact q
   clear HP
   go_upto_region 12 with fail
   refine wp_region_noPanic ?_
   refine wp_region_held_drew (S:=fun cw=>Blk cw B [pp rb,pp b,pp tb,.int .i64 0] 27/\cw.cell? ⟨bq,oq+i*6+0,none⟩=some (.int .i64 kd)/\cw.cell? ⟨bq,oq+i*6+1,none⟩=some (.int .i64 pg)/\cw.cell? ⟨bq,oq+i*6+2,none⟩=some (.int .i64 fg)/\cw.cell? ⟨bq,oq+i*6+3,none⟩=some (.bool qa)/\cw.cell? ⟨bq,oq+i*6+4,none⟩=some (.bool qb)/\cw.cell? ⟨bq,oq+i*6+5,none⟩=some (.bool qc)) (by kernel_rfl) ?_ (fun hHeld=> ?_)
   . exact SZ.out
   have GU:Hid (Below wr.heap.size wr wr.drew):=below_dr wr
   clear SZ lq
   generalize wr.drew=U at hHeld GU |-
   refine wpAnyH_take (i:=0) (oi:=⟨some 62,_,_,_,_,none⟩) (v:=(.agg #[pp rb,pp b,pp tb,.int .i64 0])) rfl (by kernel_rfl) (by kernel_rfl) (by kernel_rfl) (fun _ _ _ h=>h) (Or.inl ⟨by rfl,?_⟩) (by assumption) ?_
   . intro w hSw;(try dsimp only at hSw);have r0:=Blk.cell hSw.1 0;have r1:=Blk.cell hSw.1 1;have r2:=Blk.cell hSw.1 2;have r3:=Blk.cell hSw.1 3;(try go_simp);(try simp [*])
   try simp only [Act.put,List.setIfInBounds_toArray,List.set_cons_zero,List.set_cons_succ]
   refine wpAnyH_take (i:=1) (oi:=⟨some 63,_,_,_,_,none⟩) (v:= ?_) rfl (by kernel_rfl) (by kernel_rfl) (by kernel_rfl) (fun _ _ _ h=>h) (Or.inl ⟨by rfl,?_⟩) (by assumption) ?_
   rotate_left
   . intro w hSw;(try dsimp only at hSw);go_simp;(try with_reducible rfl)
   try simp only [Act.put,List.setIfInBounds_toArray,List.set_cons_zero,List.set_cons_succ]
   refine wpAnyH_take (i:=2) (oi:=⟨some 64,_,_,_,_,none⟩) (v:= ?_) rfl (by kernel_rfl) (by kernel_rfl) (by kernel_rfl) (fun _ _ _ h=>h) (Or.inl ⟨by rfl,?_⟩) (by assumption) ?_
   rotate_left
   . intro w hSw;(try dsimp only at hSw);go_simp;(try with_reducible rfl)
   try simp only [Act.put,List.setIfInBounds_toArray,List.set_cons_zero,List.set_cons_succ]
   refine wpAnyH_take (i:=3) (oi:=⟨some 65,_,_,_,_,none⟩) (v:= ?_) rfl (by kernel_rfl) (by kernel_rfl) (by kernel_rfl) (fun _ _ _ h=>h) (Or.inl ⟨by rfl,?_⟩) (by assumption) ?_
   rotate_left
   . intro w hSw;(try dsimp only at hSw);go_simp;(try with_reducible rfl)
   try simp only [Act.put,List.setIfInBounds_toArray,List.set_cons_zero,List.set_cons_succ]
   refine wpAnyH_take (i:=4) (oi:=⟨some 66,_,_,_,_,none⟩) (v:= ?_) rfl (by kernel_rfl) (by kernel_rfl) (by kernel_rfl) (fun _ _ _ h=>h) (Or.inl ⟨by rfl,?_⟩) (by assumption) ?_
   rotate_left
   . intro w hSw;(try dsimp only at hSw);go_simp;(try with_reducible rfl)
   try simp only [Act.put,List.setIfInBounds_toArray,List.set_cons_zero,List.set_cons_succ]
   refine wpAnyH_take (i:=5) (oi:=⟨some 67,_,_,_,_,none⟩) (v:= ?_) rfl (by kernel_rfl) (by kernel_rfl) (by kernel_rfl) (fun _ _ _ h=>h) (Or.inl ⟨by rfl,?_⟩) (by assumption) ?_
   rotate_left
   . intro w hSw;(try dsimp only at hSw);go_simp;(try with_reducible rfl)
   try simp only [Act.put,List.setIfInBounds_toArray,List.set_cons_zero,List.set_cons_succ]
   refine wpAnyH_take (i:=6) (oi:=⟨some 68,_,_,_,_,none⟩) (v:=(.agg #[.int .i64 kd,.int .i64 pg,.int .i64 fg,.bool qa,.bool qb,.bool qc])) rfl (by kernel_rfl) (by kernel_rfl) (by kernel_rfl) (fun _ _ _ h=>h) (Or.inl ⟨by rfl,?_⟩) (by assumption) ?_
   . intro w hSw;(try dsimp only at hSw);have r0:w.cell? ⟨bq,oq+i*6,none⟩=some (.int .i64 kd):=hSw.2.1;have r1:=hSw.2.2.1;have r2:=hSw.2.2.2.1;have r3:=hSw.2.2.2.2.1;have r4:=hSw.2.2.2.2.2.1;have r5:=hSw.2.2.2.2.2.2;(try go_simp);(try simp [*])
   try simp only [Act.put,List.setIfInBounds_toArray,List.set_cons_zero,List.set_cons_succ]
   refine wpAnyH_ready (rs:=[7]) (by kernel_rfl) (by simp) ?_
   refine AllReadyH.cons (o:=⟨some 69,_,_,_,_,none⟩) rfl (fun K hK=> ?_) AllReadyH.nil
   go_simp
   go_wp2_with (go_at_call 14;refine Calls.mono (DC.out _ GU.out) ?_;rintro e u4 ⟨v4,rfl,hQ4,hk4⟩)
   have G4:Hid (WkO (pm0 rb b tb 90) root kf z X wq (i+1) v4 u4):=hQ4
   have hkc: ∀ j,u4.cell? ⟨bq,j,none⟩=U.cell? ⟨bq,j,none⟩:=fun j=>World.cell?_of_block (hk4.block bq XQ.out)
   refine hK.out _ _ ⟨hHeld.1.kx hk4 XB.out.1,(hkc _).trans hHeld.2.1,(hkc _).trans hHeld.2.2.1,(hkc _).trans hHeld.2.2.2.1,(hkc _).trans hHeld.2.2.2.2.1,(hkc _).trans hHeld.2.2.2.2.2.1,(hkc _).trans hHeld.2.2.2.2.2.2⟩ (fun hHeld2=> ?_)
   clear hK K hHeld hQ4 hk4 hkc GU
   have hHeld:=hHeld2
   clear hHeld2
   try simp only [Act.put,List.setIfInBounds_toArray,List.set_cons_zero,List.set_cons_succ]
   refine wpAnyH_take (i:=8) (oi:=⟨some 61,_,_,_,_,none⟩) (v:= ?_) rfl (by kernel_rfl) (by kernel_rfl) (by kernel_rfl) (fun _ _ _ h=>h) (Or.inl ⟨by rfl,?_⟩) (by assumption) ?_
   rotate_left
   . intro w hSw;(try dsimp only at hSw);go_simp;(try with_reducible rfl)
   try simp only [Act.put,List.setIfInBounds_toArray,List.set_cons_zero,List.set_cons_succ]
   refine wpAnyH_take (i:=9) (oi:=⟨some 70,_,_,_,_,none⟩) (v:= ?_) rfl (by kernel_rfl) (by kernel_rfl) (by kernel_rfl) (fun _ _ _ h=>h) (Or.inl ⟨by rfl,?_⟩) (by assumption) ?_
   rotate_left
   . intro w hSw;(try dsimp only at hSw);go_simp;(try with_reducible rfl)
   try simp only [Act.put,List.setIfInBounds_toArray,List.set_cons_zero,List.set_cons_succ]
   refine wpAnyH_take (i:=10) (oi:=⟨some 71,_,_,_,_,none⟩) (v:= ?_) rfl (by kernel_rfl) (by kernel_rfl) (by kernel_rfl) (fun _ _ _ h=>h) (Or.inl ⟨by rfl,?_⟩) (by assumption) ?_
   rotate_left
   . intro w hSw;(try dsimp only at hSw);go_simp;(try with_reducible rfl)
   try simp only [Act.put,List.setIfInBounds_toArray,List.set_cons_zero,List.set_cons_succ]
   refine wpAnyH_take (i:=11) (oi:=⟨some 15,_,_,_,_,none⟩) (v:= ?_) rfl (by kernel_rfl) (by kernel_rfl) (by kernel_rfl) (fun _ _ _ h=>h) (Or.inl ⟨by rfl,?_⟩) (by assumption) ?_
   rotate_left
   . intro w hSw;(try dsimp only at hSw);go_simp;(try with_reducible rfl)
   try simp only [Act.put,List.setIfInBounds_toArray,List.set_cons_zero,List.set_cons_succ]
   refine wpAnyH_take (i:=12) (oi:=⟨some 16,_,_,_,_,none⟩) (v:= ?_) rfl (by kernel_rfl) (by kernel_rfl) (by kernel_rfl) (fun _ _ _ h=>h) (Or.inl ⟨by rfl,?_⟩) (by assumption) ?_
   rotate_left
   . intro w hSw;(try dsimp only at hSw);go_simp;(try with_reducible rfl)
   try simp only [Act.put,List.setIfInBounds_toArray,List.set_cons_zero,List.set_cons_succ]
   clear hHeld
   refine wpAnyH_done (by kernel_rfl) ?_ _
   refine NoPanic.normal ?_
   go_wp2_with fail
   go_roundw
   case rel=>exact ⟨i+1,by omega,by omega,by go_num,G4⟩
   case measure=>simp [Go.RowKit.intOf];omega
 case rest =>
  clear I0 HA m0
  have I1:Hid (WkO (pm0 rb b tb 90) root kf z X wq 20 u13 wc):=hcut
  clear hcut
  obtain ⟨Y,s,tab,lf,hW⟩:=I1.out
  have WK:Hid (Wk (pm0 rb b tb 90) root kf z X wq 20 Y s tab lf u13 wc):=hW
  clear hW I1
  have LW:Hid (Below w.heap.size w wc):=by
   have q:=WK.out.kx
   have L0:Below w.heap.size w wq:=below_then F0.out.1 L2.out
   exact L0.trans ⟨q.os,q.tape,q.output,q.size,fun j hj=>q.block j (XB.out.2 j (Nat.lt_trans hj F0.out.2.2))⟩
  have BB:Hid (Blk wc B [pp rb,pp b,pp tb,.int .i64 0] 27):=BBq.out.kx WK.out.kx XB.out.1
  have BA:Hid (Blk wc w.heap.size [.bool x,.bool u,.bool f] 54):=(F0.out.2.1.below L2.out).kx WK.out.kx (XB.out.2 _ F0.out.2.2)
  have BX:=BB.out
  have x0:wc.cell? ⟨B,0,none⟩=some (pp rb):=BX.cell 0
  have x1:wc.cell? ⟨B,1,none⟩=some (pp b):=BX.cell 1
  have x2:wc.cell? ⟨B,2,none⟩=some (pp tb):=BX.cell 2
  have x3:wc.cell? ⟨B,3,none⟩=some (.int .i64 0):=BX.cell 3
  have lB:=BX.lt
  clear BX
  have z0:wc.cell? ⟨w.heap.size,0,none⟩=some (.bool x):=BA.out.cell 0
  have z1:wc.cell? ⟨w.heap.size,1,none⟩=some (.bool u):=BA.out.cell 1
  have z2:wc.cell? ⟨w.heap.size,2,none⟩=some (.bool f):=BA.out.cell 2
  have lA:=BA.out.lt
  cases he:(ext a1==a1) with
  | false =>
   have VEQ:Hid ((walkW (pm0 rb b tb 90).has s.M root a1 x u f).val=.tuple #[.agg #[.int .i64 0,.bool false,.bool false,.bool false,.bool false,.bool false,.bool false],.agg #[.int .u64 0,.int .i64 0],.int .i64 1]):=walk_bad _ _ _ _ he x u f
   have WC:Hid (Calls Tryd.prog 22 #[pp rb,.int .i64 root,.int .u64 a1,.agg #[.bool x,.bool u,.bool f]] wc fun e w'=>e=.returned (.tuple #[.agg #[.int .i64 0,.bool false,.bool false,.bool false,.bool false,.bool false,.bool false],.agg #[.int .u64 0,.int .i64 0],.int .i64 1])/\Kx Y wc w'):=by
    have q:=WK.out.walk (by omega) a1 A1.out.1 A1.out.2 x u f
    rw [VEQ.out] at q
    exact q
   have CN:Hid (∀ W:World,Calls Tryd.prog 23 #[.int .u64 a1] W fun e w'=>e=.returned (.bool false)/\w'=W):=fun W=>by
    have q:=canonical_any a1 A1.out.1 A1.out.2 W
    rw [he] at q
    exact q
   clear VEQ
   go_wp2_with fail
   refine Calls.mono WC.out ?_
   rintro e w5 ⟨rfl,hk5⟩
   have M2:=made_2 w5 [.int .i64 0,.bool false,.bool false,.bool false,.bool false,.bool false,.bool false] [.int .u64 0,.int .i64 0] 56 58
   have G5:Hid (Below w.heap.size w ((w5.alloc (.cells #[.int .i64 0,.bool false,.bool false,.bool false,.bool false,.bool false,.bool false] 56)).alloc (.cells #[.int .u64 0,.int .i64 0] 58))/\Blk ((w5.alloc (.cells #[.int .i64 0,.bool false,.bool false,.bool false,.bool false,.bool false,.bool false] 56)).alloc (.cells #[.int .u64 0,.int .i64 0] 58)) w5.heap.size [.int .i64 0,.bool false,.bool false,.bool false,.bool false,.bool false,.bool false] 56/\Blk ((w5.alloc (.cells #[.int .i64 0,.bool false,.bool false,.bool false,.bool false,.bool false,.bool false] 56)).alloc (.cells #[.int .u64 0,.int .i64 0] 58)) (w5.heap.size+1) [.int .u64 0,.int .i64 0] 58/\(∃ p c,u13=.slice p (lvs lf).length c/\Ld ((w5.alloc (.cells #[.int .i64 0,.bool false,.bool false,.bool false,.bool false,.bool false,.bool false] 56)).alloc (.cells #[.int .u64 0,.int .i64 0] 58)) lf p)/\Blk ((w5.alloc (.cells #[.int .i64 0,.bool false,.bool false,.bool false,.bool false,.bool false,.bool false] 56)).alloc (.cells #[.int .u64 0,.int .i64 0] 58)) w.heap.size [.bool x,.bool u,.bool f] 54):=by
    have hb:Below w5.heap.size w5 ((w5.alloc (.cells #[.int .i64 0,.bool false,.bool false,.bool false,.bool false,.bool false,.bool false] 56)).alloc (.cells #[.int .u64 0,.int .i64 0] 58)):=Go.Joins.below_alloc2 _ _ _
    have L5:Below w.heap.size w w5:=LW.out.trans ⟨hk5.os,hk5.tape,hk5.output,hk5.size,fun j hj=>hk5.block j (WK.out.xy j (XB.out.2 j (Nat.lt_trans hj F0.out.2.2)))⟩
    obtain ⟨p,c,hv,hl⟩:=WK.out.ld hk5
    exact ⟨below_then L5 hb,M2.1,M2.2,⟨p,c,hv,hl.below hb⟩,(BA.out.kx hk5 (WK.out.xy _ (XB.out.2 _ F0.out.2.2))).below hb⟩
   clear M2 hk5 WC x0 x1 x2 x3 lB z0 z1 z2 lA BA BB
   go_upto_region 17 with fail
   generalize (w5.alloc (.cells #[.int .i64 0,.bool false,.bool false,.bool false,.bool false,.bool false,.bool false] 56)).alloc (.cells #[.int .u64 0,.int .i64 0] 58)=w6 at G5 |-
   generalize w5.heap.size=b5 at G5 |-
   go_wp2_with fail
   refine Calls.mono (CN.out w6) ?_
   rintro e w7 ⟨rfl,hw7⟩
   have hw8:=hw7.symm
   subst hw8
   clear hw7 CN
   have z0:w6.cell? ⟨w.heap.size,0,none⟩=some (.bool x):=G5.out.2.2.2.2.cell 0
   have z1:w6.cell? ⟨w.heap.size,1,none⟩=some (.bool u):=G5.out.2.2.2.2.cell 1
   have z2:w6.cell? ⟨w.heap.size,2,none⟩=some (.bool f):=G5.out.2.2.2.2.cell 2
   have lA:=G5.out.2.2.2.2.lt
   have H9:Hid (Below w.heap.size w w6/\Blk w6 b5 [.int .i64 0,.bool false,.bool false,.bool false,.bool false,.bool false,.bool false] 56/\Blk w6 (b5+1) [.int .u64 0,.int .i64 0] 58):=⟨G5.out.1,G5.out.2.1,G5.out.2.2.1⟩
   go_wp2_with fail
   go_returns
   exact ⟨rfl,H9.out.1⟩
  | true =>
   by_cases lo:a1<140737488355328
   . have d1:decide (a1<140737488355328)=true:=by simp [lo]
     obtain ⟨pn,hpn⟩: ∃ pn:Nat,a1 / 4096=(pn:Int):=⟨(a1 / 4096).toNat,by have:=A1.out;omega⟩
     have pn5:pn<34359738368:=by have:=A1.out;omega
     have v1:IntKind.i64.wrap (a1 / 4096)=a1 / 4096:=by have:=A1.out;simp only [IntKind.wrap_i64];omega
     obtain ⟨cd,hcd⟩: ∃ cd,codeV x u f=cd:=⟨_,rfl⟩
     have c0:bits .and .i64 cd 1=0:=by rw [<- hcd];exact (and_code x u f).1
     have c1:bits .and .i64 (cd+1) 1=1:=by rw [<- hcd];exact (and_code x u f).2
     have LO:=WK.out.low he pn5 hpn x u f
     rw [hcd] at LO
     cases hlf:lf pn with
     | none =>
      rw [hlf] at LO
      have VEQ:Hid ((walkW (pm0 rb b tb 90).has s.M root a1 x u f).val=refV a1 cd):=LO
      clear LO
      have WC:Hid (Calls Tryd.prog 22 #[pp rb,.int .i64 root,.int .u64 a1,.agg #[.bool x,.bool u,.bool f]] wc fun e w'=>e=.returned (.tuple #[.agg #[.int .i64 0,.bool false,.bool false,.bool false,.bool false,.bool false,.bool false],.agg #[.int .u64 a1,.int .i64 cd],.int .i64 9])/\Kx Y wc w'):=by
       have q:=WK.out.walk (by omega) a1 A1.out.1 A1.out.2 x u f
       rw [VEQ.out] at q
       exact q
      have CN:Hid (∀ W:World,Calls Tryd.prog 23 #[.int .u64 a1] W fun e w'=>e=.returned (.bool true)/\w'=W):=fun W=>by
       have q:=canonical_any a1 A1.out.1 A1.out.2 W
       rw [he] at q
       exact q
      clear VEQ
      go_wp2_with fail
      refine Calls.mono WC.out ?_
      rintro e w5 ⟨rfl,hk5⟩
      have M2:=made_2 w5 [.int .i64 0,.bool false,.bool false,.bool false,.bool false,.bool false,.bool false] [.int .u64 a1,.int .i64 cd] 56 58
      have G5:Hid (Below w.heap.size w ((w5.alloc (.cells #[.int .i64 0,.bool false,.bool false,.bool false,.bool false,.bool false,.bool false] 56)).alloc (.cells #[.int .u64 a1,.int .i64 cd] 58))/\Blk ((w5.alloc (.cells #[.int .i64 0,.bool false,.bool false,.bool false,.bool false,.bool false,.bool false] 56)).alloc (.cells #[.int .u64 a1,.int .i64 cd] 58)) w5.heap.size [.int .i64 0,.bool false,.bool false,.bool false,.bool false,.bool false,.bool false] 56/\Blk ((w5.alloc (.cells #[.int .i64 0,.bool false,.bool false,.bool false,.bool false,.bool false,.bool false] 56)).alloc (.cells #[.int .u64 a1,.int .i64 cd] 58)) (w5.heap.size+1) [.int .u64 a1,.int .i64 cd] 58/\(∃ p c,u13=.slice p (lvs lf).length c/\Ld ((w5.alloc (.cells #[.int .i64 0,.bool false,.bool false,.bool false,.bool false,.bool false,.bool false] 56)).alloc (.cells #[.int .u64 a1,.int .i64 cd] 58)) lf p)/\Blk ((w5.alloc (.cells #[.int .i64 0,.bool false,.bool false,.bool false,.bool false,.bool false,.bool false] 56)).alloc (.cells #[.int .u64 a1,.int .i64 cd] 58)) w.heap.size [.bool x,.bool u,.bool f] 54):=by
       have hb:Below w5.heap.size w5 ((w5.alloc (.cells #[.int .i64 0,.bool false,.bool false,.bool false,.bool false,.bool false,.bool false] 56)).alloc (.cells #[.int .u64 a1,.int .i64 cd] 58)):=Go.Joins.below_alloc2 _ _ _
       have L5:Below w.heap.size w w5:=LW.out.trans ⟨hk5.os,hk5.tape,hk5.output,hk5.size,fun j hj=>hk5.block j (WK.out.xy j (XB.out.2 j (Nat.lt_trans hj F0.out.2.2)))⟩
       obtain ⟨p,c,hv,hl⟩:=WK.out.ld hk5
       exact ⟨below_then L5 hb,M2.1,M2.2,⟨p,c,hv,hl.below hb⟩,(BA.out.kx hk5 (WK.out.xy _ (XB.out.2 _ F0.out.2.2))).below hb⟩
      clear M2 hk5 WC x0 x1 x2 x3 lB z0 z1 z2 lA BA BB
      go_upto_region 17 with fail
      generalize (w5.alloc (.cells #[.int .i64 0,.bool false,.bool false,.bool false,.bool false,.bool false,.bool false] 56)).alloc (.cells #[.int .u64 a1,.int .i64 cd] 58)=w6 at G5 |-
      generalize w5.heap.size=b5 at G5 |-
      go_wp2_with fail
      refine Calls.mono (CN.out w6) ?_
      rintro e w7 ⟨rfl,hw7⟩
      have hw8:=hw7.symm
      subst hw8
      clear hw7 CN
      have z0:w6.cell? ⟨w.heap.size,0,none⟩=some (.bool x):=G5.out.2.2.2.2.cell 0
      have z1:w6.cell? ⟨w.heap.size,1,none⟩=some (.bool u):=G5.out.2.2.2.2.cell 1
      have z2:w6.cell? ⟨w.heap.size,2,none⟩=some (.bool f):=G5.out.2.2.2.2.cell 2
      have lA:=G5.out.2.2.2.2.lt
      obtain ⟨p,c,hv,hl⟩:=G5.out.2.2.2.1
      subst hv
      have FC:Hid (Calls Tryd.prog 24 #[.slice p (lvs lf).length c,.int .i64 (pn:Int)] w6 fun e w'=>e=.returned (.tuple #[.agg #[.int .i64 ((0:Nat):Int),.int .i64 0,.bool false,.bool false,.bool false],.bool false])/\Below w6.heap.size w6 w'):=by
       exact (find_not hl (Or.inr (by rw [Int.toNat_natCast];exact hlf))) w6 ⟨rfl,rfl,rfl,Nat.le_refl _,fun _ _=>rfl⟩
      obtain ⟨nl,hnl⟩: ∃ nl,(lvs lf).length=nl:=⟨_,rfl⟩
      rw [hnl] at FC |-
      clear hl hnl
      go_wp2_with fail
      refine Calls.mono FC.out ?_
      rintro e w8 ⟨rfl,hb8⟩
      have H9:Hid (Below w.heap.size w (w8.alloc (.cells #[.int .i64 ((0:Nat):Int),.int .i64 0,.bool false,.bool false,.bool false] 63))/\Blk (w8.alloc (.cells #[.int .i64 ((0:Nat):Int),.int .i64 0,.bool false,.bool false,.bool false] 63)) b5 [.int .i64 0,.bool false,.bool false,.bool false,.bool false,.bool false,.bool false] 56/\Blk (w8.alloc (.cells #[.int .i64 ((0:Nat):Int),.int .i64 0,.bool false,.bool false,.bool false] 63)) (b5+1) [.int .u64 a1,.int .i64 cd] 58/\Blk (w8.alloc (.cells #[.int .i64 ((0:Nat):Int),.int .i64 0,.bool false,.bool false,.bool false] 63)) w.heap.size [.bool x,.bool u,.bool f] 54/\Blk (w8.alloc (.cells #[.int .i64 ((0:Nat):Int),.int .i64 0,.bool false,.bool false,.bool false] 63)) w8.heap.size [.int .i64 ((0:Nat):Int),.int .i64 0,.bool false,.bool false,.bool false] 63):=by
       have hb:Below w8.heap.size w8 (w8.alloc (.cells #[.int .i64 ((0:Nat):Int),.int .i64 0,.bool false,.bool false,.bool false] 63)):=Go.Joins.below_alloc1 _ _
       exact ⟨below_then (below_then G5.out.1 hb8) hb,(G5.out.2.1.below hb8).below hb,(G5.out.2.2.1.below hb8).below hb,(G5.out.2.2.2.2.below hb8).below hb,Blk.made w8 [.int .i64 ((0:Nat):Int),.int .i64 0,.bool false,.bool false,.bool false] 63⟩
      clear hb8 FC G5 z0 z1 z2 lA
      go_upto_region 21 with fail
      generalize w8.alloc (.cells #[.int .i64 ((0:Nat):Int),.int .i64 0,.bool false,.bool false,.bool false] 63)=w9 at H9 |-
      generalize w8.heap.size=b8 at H9 |-
      have z0:w9.cell? ⟨w.heap.size,0,none⟩=some (.bool x):=H9.out.2.2.2.1.cell 0
      have z1:w9.cell? ⟨w.heap.size,1,none⟩=some (.bool u):=H9.out.2.2.2.1.cell 1
      have z2:w9.cell? ⟨w.heap.size,2,none⟩=some (.bool f):=H9.out.2.2.2.1.cell 2
      have lA:=H9.out.2.2.2.1.lt
      have t0:w9.cell? ⟨b5+1,0,none⟩=some (.int .u64 a1):=H9.out.2.2.1.cell 0
      have t1:w9.cell? ⟨b5+1,1,none⟩=some (.int .i64 cd):=H9.out.2.2.1.cell 1
      have lt:=H9.out.2.2.1.lt
      go_wp2_with fail
      go_returns
      exact ⟨rfl,H9.out.1⟩
     | some v =>
      rw [hlf] at LO
      obtain ⟨vf,va,vb,vc⟩:=v
      by_cases my:mayV va vb vc x u f=true
      . have VEQ:Hid ((walkW (pm0 rb b tb 90).has s.M root a1 x u f).val=okV vf va vb vc false false x):=by
         have q:(walkW (pm0 rb b tb 90).has s.M root a1 x u f).val=if mayV va vb vc x u f=true then okV vf va vb vc false false x else refV a1 (cd+1):=LO
         rw [if_pos my] at q
         exact q
        clear LO
        have WC:Hid (Calls Tryd.prog 22 #[pp rb,.int .i64 root,.int .u64 a1,.agg #[.bool x,.bool u,.bool f]] wc fun e w'=>e=.returned (.tuple #[.agg #[.int .i64 vf,.bool va,.bool vb,.bool vc,.bool false,.bool false,.bool x],.agg #[.int .u64 0,.int .i64 0],.int .i64 0])/\Kx Y wc w'):=by
         have q:=WK.out.walk (by omega) a1 A1.out.1 A1.out.2 x u f
         rw [VEQ.out] at q
         exact q
        have CN:Hid (∀ W:World,Calls Tryd.prog 23 #[.int .u64 a1] W fun e w'=>e=.returned (.bool true)/\w'=W):=fun W=>by
         have q:=canonical_any a1 A1.out.1 A1.out.2 W
         rw [he] at q
         exact q
        clear VEQ
        go_wp2_with fail
        refine Calls.mono WC.out ?_
        rintro e w5 ⟨rfl,hk5⟩
        have M2:=made_2 w5 [.int .i64 vf,.bool va,.bool vb,.bool vc,.bool false,.bool false,.bool x] [.int .u64 0,.int .i64 0] 56 58
        have G5:Hid (Below w.heap.size w ((w5.alloc (.cells #[.int .i64 vf,.bool va,.bool vb,.bool vc,.bool false,.bool false,.bool x] 56)).alloc (.cells #[.int .u64 0,.int .i64 0] 58))/\Blk ((w5.alloc (.cells #[.int .i64 vf,.bool va,.bool vb,.bool vc,.bool false,.bool false,.bool x] 56)).alloc (.cells #[.int .u64 0,.int .i64 0] 58)) w5.heap.size [.int .i64 vf,.bool va,.bool vb,.bool vc,.bool false,.bool false,.bool x] 56/\Blk ((w5.alloc (.cells #[.int .i64 vf,.bool va,.bool vb,.bool vc,.bool false,.bool false,.bool x] 56)).alloc (.cells #[.int .u64 0,.int .i64 0] 58)) (w5.heap.size+1) [.int .u64 0,.int .i64 0] 58/\(∃ p c,u13=.slice p (lvs lf).length c/\Ld ((w5.alloc (.cells #[.int .i64 vf,.bool va,.bool vb,.bool vc,.bool false,.bool false,.bool x] 56)).alloc (.cells #[.int .u64 0,.int .i64 0] 58)) lf p)/\Blk ((w5.alloc (.cells #[.int .i64 vf,.bool va,.bool vb,.bool vc,.bool false,.bool false,.bool x] 56)).alloc (.cells #[.int .u64 0,.int .i64 0] 58)) w.heap.size [.bool x,.bool u,.bool f] 54):=by
         have hb:Below w5.heap.size w5 ((w5.alloc (.cells #[.int .i64 vf,.bool va,.bool vb,.bool vc,.bool false,.bool false,.bool x] 56)).alloc (.cells #[.int .u64 0,.int .i64 0] 58)):=Go.Joins.below_alloc2 _ _ _
         have L5:Below w.heap.size w w5:=LW.out.trans ⟨hk5.os,hk5.tape,hk5.output,hk5.size,fun j hj=>hk5.block j (WK.out.xy j (XB.out.2 j (Nat.lt_trans hj F0.out.2.2)))⟩
         obtain ⟨p,c,hv,hl⟩:=WK.out.ld hk5
         exact ⟨below_then L5 hb,M2.1,M2.2,⟨p,c,hv,hl.below hb⟩,(BA.out.kx hk5 (WK.out.xy _ (XB.out.2 _ F0.out.2.2))).below hb⟩
        clear M2 hk5 WC x0 x1 x2 x3 lB z0 z1 z2 lA BA BB
        go_upto_region 17 with fail
        generalize (w5.alloc (.cells #[.int .i64 vf,.bool va,.bool vb,.bool vc,.bool false,.bool false,.bool x] 56)).alloc (.cells #[.int .u64 0,.int .i64 0] 58)=w6 at G5 |-
        generalize w5.heap.size=b5 at G5 |-
        go_wp2_with fail
        refine Calls.mono (CN.out w6) ?_
        rintro e w7 ⟨rfl,hw7⟩
        have hw8:=hw7.symm
        subst hw8
        clear hw7 CN
        have z0:w6.cell? ⟨w.heap.size,0,none⟩=some (.bool x):=G5.out.2.2.2.2.cell 0
        have z1:w6.cell? ⟨w.heap.size,1,none⟩=some (.bool u):=G5.out.2.2.2.2.cell 1
        have z2:w6.cell? ⟨w.heap.size,2,none⟩=some (.bool f):=G5.out.2.2.2.2.cell 2
        have lA:=G5.out.2.2.2.2.lt
        obtain ⟨p,c,hv,hl⟩:=G5.out.2.2.2.1
        subst hv
        have FC:Hid (Calls Tryd.prog 24 #[.slice p (lvs lf).length c,.int .i64 (pn:Int)] w6 fun e w'=>e=.returned (.tuple #[.agg #[.int .i64 (pn:Int),.int .i64 vf,.bool va,.bool vb,.bool vc],.bool true])/\Below w6.heap.size w6 w'):=by
         exact (find_yes hl hlf) w6 ⟨rfl,rfl,rfl,Nat.le_refl _,fun _ _=>rfl⟩
        obtain ⟨nl,hnl⟩: ∃ nl,(lvs lf).length=nl:=⟨_,rfl⟩
        rw [hnl] at FC |-
        clear hl hnl
        go_wp2_with fail
        refine Calls.mono FC.out ?_
        rintro e w8 ⟨rfl,hb8⟩
        have H9:Hid (Below w.heap.size w (w8.alloc (.cells #[.int .i64 (pn:Int),.int .i64 vf,.bool va,.bool vb,.bool vc] 63))/\Blk (w8.alloc (.cells #[.int .i64 (pn:Int),.int .i64 vf,.bool va,.bool vb,.bool vc] 63)) b5 [.int .i64 vf,.bool va,.bool vb,.bool vc,.bool false,.bool false,.bool x] 56/\Blk (w8.alloc (.cells #[.int .i64 (pn:Int),.int .i64 vf,.bool va,.bool vb,.bool vc] 63)) (b5+1) [.int .u64 0,.int .i64 0] 58/\Blk (w8.alloc (.cells #[.int .i64 (pn:Int),.int .i64 vf,.bool va,.bool vb,.bool vc] 63)) w.heap.size [.bool x,.bool u,.bool f] 54/\Blk (w8.alloc (.cells #[.int .i64 (pn:Int),.int .i64 vf,.bool va,.bool vb,.bool vc] 63)) w8.heap.size [.int .i64 (pn:Int),.int .i64 vf,.bool va,.bool vb,.bool vc] 63):=by
         have hb:Below w8.heap.size w8 (w8.alloc (.cells #[.int .i64 (pn:Int),.int .i64 vf,.bool va,.bool vb,.bool vc] 63)):=Go.Joins.below_alloc1 _ _
         exact ⟨below_then (below_then G5.out.1 hb8) hb,(G5.out.2.1.below hb8).below hb,(G5.out.2.2.1.below hb8).below hb,(G5.out.2.2.2.2.below hb8).below hb,Blk.made w8 [.int .i64 (pn:Int),.int .i64 vf,.bool va,.bool vb,.bool vc] 63⟩
        clear hb8 FC G5 z0 z1 z2 lA
        go_upto_region 21 with fail
        generalize w8.alloc (.cells #[.int .i64 (pn:Int),.int .i64 vf,.bool va,.bool vb,.bool vc] 63)=w9 at H9 |-
        generalize w8.heap.size=b8 at H9 |-
        have z0:w9.cell? ⟨w.heap.size,0,none⟩=some (.bool x):=H9.out.2.2.2.1.cell 0
        have z1:w9.cell? ⟨w.heap.size,1,none⟩=some (.bool u):=H9.out.2.2.2.1.cell 1
        have z2:w9.cell? ⟨w.heap.size,2,none⟩=some (.bool f):=H9.out.2.2.2.1.cell 2
        have lA:=H9.out.2.2.2.1.lt
        have l1:w9.cell? ⟨b8,1,none⟩=some (.int .i64 vf):=H9.out.2.2.2.2.cell 1
        have l2:w9.cell? ⟨b8,2,none⟩=some (.bool va):=H9.out.2.2.2.2.cell 2
        have l3:w9.cell? ⟨b8,3,none⟩=some (.bool vb):=H9.out.2.2.2.2.cell 3
        have l4:w9.cell? ⟨b8,4,none⟩=some (.bool vc):=H9.out.2.2.2.2.cell 4
        have lL:=H9.out.2.2.2.2.lt
        have MC:Hid (Calls Tryd.prog 25 #[.agg #[.bool va,.bool vb,.bool vc],.agg #[.bool x,.bool u,.bool f]] w9 fun e w'=>e=.returned (.bool true)/\Below w9.heap.size w9 w'):=by
         have q:=may_any va vb vc x u f w9
         rw [my] at q
         exact q
        go_wp2_with fail
        refine Calls.mono MC.out ?_
        rintro e w10 ⟨rfl,hb10⟩
        have H10:=H9.out
        have H11:Hid (Below w.heap.size w w10/\Blk w10 b5 [.int .i64 vf,.bool va,.bool vb,.bool vc,.bool false,.bool false,.bool x] 56/\Blk w10 (b5+1) [.int .u64 0,.int .i64 0] 58/\Blk w10 w.heap.size [.bool x,.bool u,.bool f] 54/\Blk w10 b8 [.int .i64 (pn:Int),.int .i64 vf,.bool va,.bool vb,.bool vc] 63):=⟨below_then H10.1 hb10,H10.2.1.below hb10,H10.2.2.1.below hb10,H10.2.2.2.1.below hb10,H10.2.2.2.2.below hb10⟩
        clear H10 H9 hb10 MC l1 l2 l3 l4 lL z0 z1 z2 lA
        have H9:=H11
        clear H11
        have l1:w10.cell? ⟨b8,1,none⟩=some (.int .i64 vf):=H9.out.2.2.2.2.cell 1
        have l2:w10.cell? ⟨b8,2,none⟩=some (.bool va):=H9.out.2.2.2.2.cell 2
        have l3:w10.cell? ⟨b8,3,none⟩=some (.bool vb):=H9.out.2.2.2.2.cell 3
        have l4:w10.cell? ⟨b8,4,none⟩=some (.bool vc):=H9.out.2.2.2.2.cell 4
        have lL:=H9.out.2.2.2.2.lt
        have g0:w10.cell? ⟨b5,0,none⟩=some (.int .i64 vf):=H9.out.2.1.cell 0
        have g1:w10.cell? ⟨b5,1,none⟩=some (.bool va):=H9.out.2.1.cell 1
        have g2:w10.cell? ⟨b5,2,none⟩=some (.bool vb):=H9.out.2.1.cell 2
        have g3:w10.cell? ⟨b5,3,none⟩=some (.bool vc):=H9.out.2.1.cell 3
        have g4:w10.cell? ⟨b5,4,none⟩=some (.bool false):=H9.out.2.1.cell 4
        have g5:w10.cell? ⟨b5,5,none⟩=some (.bool false):=H9.out.2.1.cell 5
        have g6:w10.cell? ⟨b5,6,none⟩=some (.bool x):=H9.out.2.1.cell 6
        have lg:=H9.out.2.1.lt
        have z0:w10.cell? ⟨w.heap.size,0,none⟩=some (.bool x):=H9.out.2.2.2.1.cell 0
        have lA:=H9.out.2.2.2.1.lt
        have eq:(binOp .eql 56 (.agg #[.int .i64 vf,.bool va,.bool vb,.bool vc,.bool false,.bool false,.bool x]) (.agg #[.int .i64 vf,.bool va,.bool vb,.bool vc,.bool false,.bool false,.bool x])).run Tryd.prog w10=.ok (.bool true) w10:=by
         have q:=eqFd ⟨vf,va,vb,vc,false,false,x⟩ ⟨vf,va,vb,vc,false,false,x⟩ w10
         rw [decide_eq_true rfl] at q
         exact q
        go_wp2_with fail
        go_returns
        exact ⟨rfl,H9.out.1⟩
      . have VEQ:Hid ((walkW (pm0 rb b tb 90).has s.M root a1 x u f).val=refV a1 (cd+1)):=by
         have q:(walkW (pm0 rb b tb 90).has s.M root a1 x u f).val=if mayV va vb vc x u f=true then okV vf va vb vc false false x else refV a1 (cd+1):=LO
         rw [if_neg my] at q
         exact q
        clear LO
        have my2:mayV va vb vc x u f=false:=by simpa using my
        have WC:Hid (Calls Tryd.prog 22 #[pp rb,.int .i64 root,.int .u64 a1,.agg #[.bool x,.bool u,.bool f]] wc fun e w'=>e=.returned (.tuple #[.agg #[.int .i64 0,.bool false,.bool false,.bool false,.bool false,.bool false,.bool false],.agg #[.int .u64 a1,.int .i64 (cd+1)],.int .i64 9])/\Kx Y wc w'):=by
         have q:=WK.out.walk (by omega) a1 A1.out.1 A1.out.2 x u f
         rw [VEQ.out] at q
         exact q
        have CN:Hid (∀ W:World,Calls Tryd.prog 23 #[.int .u64 a1] W fun e w'=>e=.returned (.bool true)/\w'=W):=fun W=>by
         have q:=canonical_any a1 A1.out.1 A1.out.2 W
         rw [he] at q
         exact q
        clear VEQ
        go_wp2_with fail
        refine Calls.mono WC.out ?_
        rintro e w5 ⟨rfl,hk5⟩
        have M2:=made_2 w5 [.int .i64 0,.bool false,.bool false,.bool false,.bool false,.bool false,.bool false] [.int .u64 a1,.int .i64 (cd+1)] 56 58
        have G5:Hid (Below w.heap.size w ((w5.alloc (.cells #[.int .i64 0,.bool false,.bool false,.bool false,.bool false,.bool false,.bool false] 56)).alloc (.cells #[.int .u64 a1,.int .i64 (cd+1)] 58))/\Blk ((w5.alloc (.cells #[.int .i64 0,.bool false,.bool false,.bool false,.bool false,.bool false,.bool false] 56)).alloc (.cells #[.int .u64 a1,.int .i64 (cd+1)] 58)) w5.heap.size [.int .i64 0,.bool false,.bool false,.bool false,.bool false,.bool false,.bool false] 56/\Blk ((w5.alloc (.cells #[.int .i64 0,.bool false,.bool false,.bool false,.bool false,.bool false,.bool false] 56)).alloc (.cells #[.int .u64 a1,.int .i64 (cd+1)] 58)) (w5.heap.size+1) [.int .u64 a1,.int .i64 (cd+1)] 58/\(∃ p c,u13=.slice p (lvs lf).length c/\Ld ((w5.alloc (.cells #[.int .i64 0,.bool false,.bool false,.bool false,.bool false,.bool false,.bool false] 56)).alloc (.cells #[.int .u64 a1,.int .i64 (cd+1)] 58)) lf p)/\Blk ((w5.alloc (.cells #[.int .i64 0,.bool false,.bool false,.bool false,.bool false,.bool false,.bool false] 56)).alloc (.cells #[.int .u64 a1,.int .i64 (cd+1)] 58)) w.heap.size [.bool x,.bool u,.bool f] 54):=by
         have hb:Below w5.heap.size w5 ((w5.alloc (.cells #[.int .i64 0,.bool false,.bool false,.bool false,.bool false,.bool false,.bool false] 56)).alloc (.cells #[.int .u64 a1,.int .i64 (cd+1)] 58)):=Go.Joins.below_alloc2 _ _ _
         have L5:Below w.heap.size w w5:=LW.out.trans ⟨hk5.os,hk5.tape,hk5.output,hk5.size,fun j hj=>hk5.block j (WK.out.xy j (XB.out.2 j (Nat.lt_trans hj F0.out.2.2)))⟩
         obtain ⟨p,c,hv,hl⟩:=WK.out.ld hk5
         exact ⟨below_then L5 hb,M2.1,M2.2,⟨p,c,hv,hl.below hb⟩,(BA.out.kx hk5 (WK.out.xy _ (XB.out.2 _ F0.out.2.2))).below hb⟩
        clear M2 hk5 WC x0 x1 x2 x3 lB z0 z1 z2 lA BA BB
        go_upto_region 17 with fail
        generalize (w5.alloc (.cells #[.int .i64 0,.bool false,.bool false,.bool false,.bool false,.bool false,.bool false] 56)).alloc (.cells #[.int .u64 a1,.int .i64 (cd+1)] 58)=w6 at G5 |-
        generalize w5.heap.size=b5 at G5 |-
        go_wp2_with fail
        refine Calls.mono (CN.out w6) ?_
        rintro e w7 ⟨rfl,hw7⟩
        have hw8:=hw7.symm
        subst hw8
        clear hw7 CN
        have z0:w6.cell? ⟨w.heap.size,0,none⟩=some (.bool x):=G5.out.2.2.2.2.cell 0
        have z1:w6.cell? ⟨w.heap.size,1,none⟩=some (.bool u):=G5.out.2.2.2.2.cell 1
        have z2:w6.cell? ⟨w.heap.size,2,none⟩=some (.bool f):=G5.out.2.2.2.2.cell 2
        have lA:=G5.out.2.2.2.2.lt
        obtain ⟨p,c,hv,hl⟩:=G5.out.2.2.2.1
        subst hv
        have FC:Hid (Calls Tryd.prog 24 #[.slice p (lvs lf).length c,.int .i64 (pn:Int)] w6 fun e w'=>e=.returned (.tuple #[.agg #[.int .i64 (pn:Int),.int .i64 vf,.bool va,.bool vb,.bool vc],.bool true])/\Below w6.heap.size w6 w'):=by
         exact (find_yes hl hlf) w6 ⟨rfl,rfl,rfl,Nat.le_refl _,fun _ _=>rfl⟩
        obtain ⟨nl,hnl⟩: ∃ nl,(lvs lf).length=nl:=⟨_,rfl⟩
        rw [hnl] at FC |-
        clear hl hnl
        go_wp2_with fail
        refine Calls.mono FC.out ?_
        rintro e w8 ⟨rfl,hb8⟩
        have H9:Hid (Below w.heap.size w (w8.alloc (.cells #[.int .i64 (pn:Int),.int .i64 vf,.bool va,.bool vb,.bool vc] 63))/\Blk (w8.alloc (.cells #[.int .i64 (pn:Int),.int .i64 vf,.bool va,.bool vb,.bool vc] 63)) b5 [.int .i64 0,.bool false,.bool false,.bool false,.bool false,.bool false,.bool false] 56/\Blk (w8.alloc (.cells #[.int .i64 (pn:Int),.int .i64 vf,.bool va,.bool vb,.bool vc] 63)) (b5+1) [.int .u64 a1,.int .i64 (cd+1)] 58/\Blk (w8.alloc (.cells #[.int .i64 (pn:Int),.int .i64 vf,.bool va,.bool vb,.bool vc] 63)) w.heap.size [.bool x,.bool u,.bool f] 54/\Blk (w8.alloc (.cells #[.int .i64 (pn:Int),.int .i64 vf,.bool va,.bool vb,.bool vc] 63)) w8.heap.size [.int .i64 (pn:Int),.int .i64 vf,.bool va,.bool vb,.bool vc] 63):=by
         have hb:Below w8.heap.size w8 (w8.alloc (.cells #[.int .i64 (pn:Int),.int .i64 vf,.bool va,.bool vb,.bool vc] 63)):=Go.Joins.below_alloc1 _ _
         exact ⟨below_then (below_then G5.out.1 hb8) hb,(G5.out.2.1.below hb8).below hb,(G5.out.2.2.1.below hb8).below hb,(G5.out.2.2.2.2.below hb8).below hb,Blk.made w8 [.int .i64 (pn:Int),.int .i64 vf,.bool va,.bool vb,.bool vc] 63⟩
        clear hb8 FC G5 z0 z1 z2 lA
        go_upto_region 21 with fail
        generalize w8.alloc (.cells #[.int .i64 (pn:Int),.int .i64 vf,.bool va,.bool vb,.bool vc] 63)=w9 at H9 |-
        generalize w8.heap.size=b8 at H9 |-
        have z0:w9.cell? ⟨w.heap.size,0,none⟩=some (.bool x):=H9.out.2.2.2.1.cell 0
        have z1:w9.cell? ⟨w.heap.size,1,none⟩=some (.bool u):=H9.out.2.2.2.1.cell 1
        have z2:w9.cell? ⟨w.heap.size,2,none⟩=some (.bool f):=H9.out.2.2.2.1.cell 2
        have lA:=H9.out.2.2.2.1.lt
        have l1:w9.cell? ⟨b8,1,none⟩=some (.int .i64 vf):=H9.out.2.2.2.2.cell 1
        have l2:w9.cell? ⟨b8,2,none⟩=some (.bool va):=H9.out.2.2.2.2.cell 2
        have l3:w9.cell? ⟨b8,3,none⟩=some (.bool vb):=H9.out.2.2.2.2.cell 3
        have l4:w9.cell? ⟨b8,4,none⟩=some (.bool vc):=H9.out.2.2.2.2.cell 4
        have lL:=H9.out.2.2.2.2.lt
        have MC:Hid (Calls Tryd.prog 25 #[.agg #[.bool va,.bool vb,.bool vc],.agg #[.bool x,.bool u,.bool f]] w9 fun e w'=>e=.returned (.bool false)/\Below w9.heap.size w9 w'):=by
         have q:=may_any va vb vc x u f w9
         rw [my2] at q
         exact q
        go_wp2_with fail
        refine Calls.mono MC.out ?_
        rintro e w10 ⟨rfl,hb10⟩
        have H10:=H9.out
        have H11:Hid (Below w.heap.size w w10/\Blk w10 b5 [.int .i64 0,.bool false,.bool false,.bool false,.bool false,.bool false,.bool false] 56/\Blk w10 (b5+1) [.int .u64 a1,.int .i64 (cd+1)] 58/\Blk w10 w.heap.size [.bool x,.bool u,.bool f] 54/\Blk w10 b8 [.int .i64 (pn:Int),.int .i64 vf,.bool va,.bool vb,.bool vc] 63):=⟨below_then H10.1 hb10,H10.2.1.below hb10,H10.2.2.1.below hb10,H10.2.2.2.1.below hb10,H10.2.2.2.2.below hb10⟩
        clear H10 H9 hb10 MC l1 l2 l3 l4 lL z0 z1 z2 lA
        have H9:=H11
        clear H11
        have t0:w10.cell? ⟨b5+1,0,none⟩=some (.int .u64 a1):=H9.out.2.2.1.cell 0
        have t1:w10.cell? ⟨b5+1,1,none⟩=some (.int .i64 (cd+1)):=H9.out.2.2.1.cell 1
        have lt:=H9.out.2.2.1.lt
        go_wp2_with fail
        go_returns
        exact ⟨rfl,H9.out.1⟩
   . have d1:decide (a1<140737488355328)=false:=by simp;omega
     have hi:18446603336221196288<=a1:=by
      have e:ext a1=a1:=by simpa using he
      have:=A1.out
      unfold ext at e
      split at e <;> omega
     obtain ⟨fr,hfr⟩: ∃ fr:Int,(a1-18446603336221196288) / 4096=fr:=⟨_,rfl⟩
     have v1:IntKind.u64.wrap (a1-18446603336221196288)=a1-18446603336221196288:=by have:=A1.out;simp only [IntKind.wrap_u64];omega
     have HI:=WK.out.high he hi A1.out.2 x u f
     rw [hfr] at HI
     have fb:0<=fr/\fr<34359738368:=by have:=A1.out;omega
     rcases HI with ⟨cc,hv,hr⟩ | ⟨f5,hu,hf,hv⟩
     . have VEQ:Hid ((walkW (pm0 rb b tb 90).has s.M root a1 x u f).val=refV a1 cc):=hv
       clear hv
       have WC:Hid (Calls Tryd.prog 22 #[pp rb,.int .i64 root,.int .u64 a1,.agg #[.bool x,.bool u,.bool f]] wc fun e w'=>e=.returned (.tuple #[.agg #[.int .i64 0,.bool false,.bool false,.bool false,.bool false,.bool false,.bool false],.agg #[.int .u64 a1,.int .i64 cc],.int .i64 9])/\Kx Y wc w'):=by
        have q:=WK.out.walk (by omega) a1 A1.out.1 A1.out.2 x u f
        rw [VEQ.out] at q
        exact q
       have CN:Hid (∀ W:World,Calls Tryd.prog 23 #[.int .u64 a1] W fun e w'=>e=.returned (.bool true)/\w'=W):=fun W=>by
        have q:=canonical_any a1 A1.out.1 A1.out.2 W
        rw [he] at q
        exact q
       clear VEQ
       go_wp2_with fail
       refine Calls.mono WC.out ?_
       rintro e w5 ⟨rfl,hk5⟩
       have M2:=made_2 w5 [.int .i64 0,.bool false,.bool false,.bool false,.bool false,.bool false,.bool false] [.int .u64 a1,.int .i64 cc] 56 58
       have G5:Hid (Below w.heap.size w ((w5.alloc (.cells #[.int .i64 0,.bool false,.bool false,.bool false,.bool false,.bool false,.bool false] 56)).alloc (.cells #[.int .u64 a1,.int .i64 cc] 58))/\Blk ((w5.alloc (.cells #[.int .i64 0,.bool false,.bool false,.bool false,.bool false,.bool false,.bool false] 56)).alloc (.cells #[.int .u64 a1,.int .i64 cc] 58)) w5.heap.size [.int .i64 0,.bool false,.bool false,.bool false,.bool false,.bool false,.bool false] 56/\Blk ((w5.alloc (.cells #[.int .i64 0,.bool false,.bool false,.bool false,.bool false,.bool false,.bool false] 56)).alloc (.cells #[.int .u64 a1,.int .i64 cc] 58)) (w5.heap.size+1) [.int .u64 a1,.int .i64 cc] 58/\(∃ p c,u13=.slice p (lvs lf).length c/\Ld ((w5.alloc (.cells #[.int .i64 0,.bool false,.bool false,.bool false,.bool false,.bool false,.bool false] 56)).alloc (.cells #[.int .u64 a1,.int .i64 cc] 58)) lf p)/\Blk ((w5.alloc (.cells #[.int .i64 0,.bool false,.bool false,.bool false,.bool false,.bool false,.bool false] 56)).alloc (.cells #[.int .u64 a1,.int .i64 cc] 58)) w.heap.size [.bool x,.bool u,.bool f] 54):=by
        have hb:Below w5.heap.size w5 ((w5.alloc (.cells #[.int .i64 0,.bool false,.bool false,.bool false,.bool false,.bool false,.bool false] 56)).alloc (.cells #[.int .u64 a1,.int .i64 cc] 58)):=Go.Joins.below_alloc2 _ _ _
        have L5:Below w.heap.size w w5:=LW.out.trans ⟨hk5.os,hk5.tape,hk5.output,hk5.size,fun j hj=>hk5.block j (WK.out.xy j (XB.out.2 j (Nat.lt_trans hj F0.out.2.2)))⟩
        obtain ⟨p,c,hv,hl⟩:=WK.out.ld hk5
        exact ⟨below_then L5 hb,M2.1,M2.2,⟨p,c,hv,hl.below hb⟩,(BA.out.kx hk5 (WK.out.xy _ (XB.out.2 _ F0.out.2.2))).below hb⟩
       clear M2 hk5 WC x0 x1 x2 x3 lB z0 z1 z2 lA BA BB
       go_upto_region 17 with fail
       generalize (w5.alloc (.cells #[.int .i64 0,.bool false,.bool false,.bool false,.bool false,.bool false,.bool false] 56)).alloc (.cells #[.int .u64 a1,.int .i64 cc] 58)=w6 at G5 |-
       generalize w5.heap.size=b5 at G5 |-
       go_wp2_with fail
       refine Calls.mono (CN.out w6) ?_
       rintro e w7 ⟨rfl,hw7⟩
       have hw8:=hw7.symm
       subst hw8
       clear hw7 CN
       have z0:w6.cell? ⟨w.heap.size,0,none⟩=some (.bool x):=G5.out.2.2.2.2.cell 0
       have z1:w6.cell? ⟨w.heap.size,1,none⟩=some (.bool u):=G5.out.2.2.2.2.cell 1
       have z2:w6.cell? ⟨w.heap.size,2,none⟩=some (.bool f):=G5.out.2.2.2.2.cell 2
       have lA:=G5.out.2.2.2.2.lt
       have H9:Hid (Below w.heap.size w w6/\Blk w6 b5 [.int .i64 0,.bool false,.bool false,.bool false,.bool false,.bool false,.bool false] 56/\Blk w6 (b5+1) [.int .u64 a1,.int .i64 cc] 58/\True):=⟨G5.out.1,G5.out.2.1,G5.out.2.2.1,trivial⟩
       have t0:w6.cell? ⟨b5+1,0,none⟩=some (.int .u64 a1):=H9.out.2.2.1.cell 0
       have t1:w6.cell? ⟨b5+1,1,none⟩=some (.int .i64 cc):=H9.out.2.2.1.cell 1
       have lt:=H9.out.2.2.1.lt
       by_cases k5:512<=fr
       . have d2:decide (512<=fr)=true:=by simp [k5]
         go_wp2_with fail
         go_returns
         exact ⟨rfl,H9.out.1⟩
       have d2:decide (512<=fr)=false:=by simp;omega
       cases u with
       | true =>
        go_wp2_with fail
        go_returns
        exact ⟨rfl,H9.out.1⟩
       | false =>
        cases f with
        | true =>
         go_wp2_with fail
         go_returns
         exact ⟨rfl,H9.out.1⟩
        | false => exact absurd hr (by simp; omega)
     . subst hu hf
       have VEQ:Hid ((walkW (pm0 rb b tb 90).has s.M root a1 x false false).val=okV fr true false false true true x):=hv
       clear hv
       have d2:decide (512<=fr)=false:=by simp;omega
       have v2:IntKind.i64.wrap fr=fr:=by simp only [IntKind.wrap_i64];omega
       have WC:Hid (Calls Tryd.prog 22 #[pp rb,.int .i64 root,.int .u64 a1,.agg #[.bool x,.bool false,.bool false]] wc fun e w'=>e=.returned (.tuple #[.agg #[.int .i64 fr,.bool true,.bool false,.bool false,.bool true,.bool true,.bool x],.agg #[.int .u64 0,.int .i64 0],.int .i64 0])/\Kx Y wc w'):=by
        have q:=WK.out.walk (by omega) a1 A1.out.1 A1.out.2 x false false
        rw [VEQ.out] at q
        exact q
       have CN:Hid (∀ W:World,Calls Tryd.prog 23 #[.int .u64 a1] W fun e w'=>e=.returned (.bool true)/\w'=W):=fun W=>by
        have q:=canonical_any a1 A1.out.1 A1.out.2 W
        rw [he] at q
        exact q
       clear VEQ
       go_wp2_with fail
       refine Calls.mono WC.out ?_
       rintro e w5 ⟨rfl,hk5⟩
       have M2:=made_2 w5 [.int .i64 fr,.bool true,.bool false,.bool false,.bool true,.bool true,.bool x] [.int .u64 0,.int .i64 0] 56 58
       have G5:Hid (Below w.heap.size w ((w5.alloc (.cells #[.int .i64 fr,.bool true,.bool false,.bool false,.bool true,.bool true,.bool x] 56)).alloc (.cells #[.int .u64 0,.int .i64 0] 58))/\Blk ((w5.alloc (.cells #[.int .i64 fr,.bool true,.bool false,.bool false,.bool true,.bool true,.bool x] 56)).alloc (.cells #[.int .u64 0,.int .i64 0] 58)) w5.heap.size [.int .i64 fr,.bool true,.bool false,.bool false,.bool true,.bool true,.bool x] 56/\Blk ((w5.alloc (.cells #[.int .i64 fr,.bool true,.bool false,.bool false,.bool true,.bool true,.bool x] 56)).alloc (.cells #[.int .u64 0,.int .i64 0] 58)) (w5.heap.size+1) [.int .u64 0,.int .i64 0] 58/\(∃ p c,u13=.slice p (lvs lf).length c/\Ld ((w5.alloc (.cells #[.int .i64 fr,.bool true,.bool false,.bool false,.bool true,.bool true,.bool x] 56)).alloc (.cells #[.int .u64 0,.int .i64 0] 58)) lf p)/\Blk ((w5.alloc (.cells #[.int .i64 fr,.bool true,.bool false,.bool false,.bool true,.bool true,.bool x] 56)).alloc (.cells #[.int .u64 0,.int .i64 0] 58)) w.heap.size [.bool x,.bool false,.bool false] 54):=by
        have hb:Below w5.heap.size w5 ((w5.alloc (.cells #[.int .i64 fr,.bool true,.bool false,.bool false,.bool true,.bool true,.bool x] 56)).alloc (.cells #[.int .u64 0,.int .i64 0] 58)):=Go.Joins.below_alloc2 _ _ _
        have L5:Below w.heap.size w w5:=LW.out.trans ⟨hk5.os,hk5.tape,hk5.output,hk5.size,fun j hj=>hk5.block j (WK.out.xy j (XB.out.2 j (Nat.lt_trans hj F0.out.2.2)))⟩
        obtain ⟨p,c,hv,hl⟩:=WK.out.ld hk5
        exact ⟨below_then L5 hb,M2.1,M2.2,⟨p,c,hv,hl.below hb⟩,(BA.out.kx hk5 (WK.out.xy _ (XB.out.2 _ F0.out.2.2))).below hb⟩
       clear M2 hk5 WC x0 x1 x2 x3 lB z0 z1 z2 lA BA BB
       go_upto_region 17 with fail
       generalize (w5.alloc (.cells #[.int .i64 fr,.bool true,.bool false,.bool false,.bool true,.bool true,.bool x] 56)).alloc (.cells #[.int .u64 0,.int .i64 0] 58)=w6 at G5 |-
       generalize w5.heap.size=b5 at G5 |-
       go_wp2_with fail
       refine Calls.mono (CN.out w6) ?_
       rintro e w7 ⟨rfl,hw7⟩
       have hw8:=hw7.symm
       subst hw8
       clear hw7 CN
       have z0:w6.cell? ⟨w.heap.size,0,none⟩=some (.bool x):=G5.out.2.2.2.2.cell 0
       have z1:w6.cell? ⟨w.heap.size,1,none⟩=some (.bool false):=G5.out.2.2.2.2.cell 1
       have z2:w6.cell? ⟨w.heap.size,2,none⟩=some (.bool false):=G5.out.2.2.2.2.cell 2
       have lA:=G5.out.2.2.2.2.lt
       have H9:Hid (Below w.heap.size w w6/\Blk w6 b5 [.int .i64 fr,.bool true,.bool false,.bool false,.bool true,.bool true,.bool x] 56/\Blk w6 (b5+1) [.int .u64 0,.int .i64 0] 58/\True):=⟨G5.out.1,G5.out.2.1,G5.out.2.2.1,trivial⟩
       have g0:w6.cell? ⟨b5,0,none⟩=some (.int .i64 fr):=H9.out.2.1.cell 0
       have g1:w6.cell? ⟨b5,1,none⟩=some (.bool true):=H9.out.2.1.cell 1
       have g2:w6.cell? ⟨b5,2,none⟩=some (.bool false):=H9.out.2.1.cell 2
       have g3:w6.cell? ⟨b5,3,none⟩=some (.bool false):=H9.out.2.1.cell 3
       have g4:w6.cell? ⟨b5,4,none⟩=some (.bool true):=H9.out.2.1.cell 4
       have g5:w6.cell? ⟨b5,5,none⟩=some (.bool true):=H9.out.2.1.cell 5
       have g6:w6.cell? ⟨b5,6,none⟩=some (.bool x):=H9.out.2.1.cell 6
       have lg:=H9.out.2.1.lt
       have eq:(binOp .eql 56 (.agg #[.int .i64 fr,.bool true,.bool false,.bool false,.bool true,.bool true,.bool x]) (.agg #[.int .i64 fr,.bool true,.bool false,.bool false,.bool true,.bool true,.bool x])).run Tryd.prog w6=.ok (.bool true) w6:=by
        have q:=eqFd ⟨fr,true,false,false,true,true,x⟩ ⟨fr,true,false,false,true,true,x⟩ w6
        rw [decide_eq_true rfl] at q
        exact q
       go_wp2_with fail
       go_returns
       exact ⟨rfl,H9.out.1⟩
set_option maxRecDepth 100000 in
theorem lifted (os:Os) (started:os.Started) (H:Type) (enc:TypeId × Value->H) :
 ReturnsInHanded {} Tryd.checked os 4 .any (fun w args=>(Rows.tableWalksSpec.pre enc Tryd.prog Tryd.f4 [] false w args/\laidMetH Tryd.prog laidL w)/\sizedMet enc Tryd.prog Tryd.f4 (OpenSpec.ofChange Rows.tableWalksSpec) false w args)
  (Rows.tableWalksSpec.post enc Tryd.prog Tryd.f4 false true false false):=by
 refine returnsInHanded_of_change_and (C:=Tryd.checked) (X:=fun w _=>laidMetH Tryd.prog laidL w) (fun _ _ _ hh h=>h.of_heap hh) own started (by kernel_rfl) Tryd.func4
  (ChangeSpec.witness_shaped (enc:=enc) (C:=Tryd.checked) (os:=os) (X:=fun w _=>laidMetH Tryd.prog laidL w) false (World.doorLaid Tryd.prog 400 os) #[.slice none 0 0,.int .u64 0,.agg #[.bool false,.bool false,.bool false]] 8 rfl (World.shaped_of_RefB (by kernel_rfl) (by kernel_rfl)) (by kernel_rfl) (by kernel_rfl) (by kernel_rfl) (door_met os _)) ?_
 intro W base args ds gs before hval0 hW _ _ hL _
 have hval: ∀ (j:Nat) t v,Tryd.f4.params[j]? =some t->args[j]? =some v->Value.okWide Tryd.prog W .any base t v:=hval0
 have hW':=hW
 obtain ⟨p,q,hA0,hV,hbef,hfz,hnd⟩:=hW
 have hA:DataW.TrodAll enc Tryd.prog W 0 (fun _=>true) true Tryd.f4.params.toList args.toList ds p:=hA0
 have hAk:=hA
 have hlt: ∀ x∈p,x.block<W.heap.size:=fun x hx=>hW'.lt x (by rw [hbef];exact List.mem_append_left _ hx)
 rw [Tryd.params4] at hA hval
 obtain ⟨v0,vs0,d0,ds0,p0,q0,hargs,rfl,hp0,h0,r0⟩:=trodAll_cons hA
 obtain ⟨v1,vs1,d1,ds1,p1,q1,rfl,rfl,hp1,h1,r1⟩:=trodAll_cons r0
 obtain ⟨v2,vs2,d2,ds2,p2,q2,rfl,rfl,hp2,h2,r2⟩:=trodAll_cons r1
 obtain ⟨rfl,rfl,hpz⟩:=trodAll_nil r2
 obtain rfl:args= #[v0,v1,v2]:=by cases args;simp_all
 obtain ⟨rfl,rfl⟩:=trodVars_none hV
 obtain ⟨p0,n0,c0,A0,rfl,m0,H0⟩:=open_acts (hval 0 22 v0 rfl rfl) h0
 obtain ⟨a1,rfl,_,_,w1⟩:=open_int Tryd.underlying52 (hval 1 52 v1 rfl rfl) h1
 obtain ⟨s2,rfl,_⟩:=open_ac3 (hval 2 54 v2 rfl rfl) h2
 clear hA0 hval0
 refine (walk p0 n0 c0 A0 m0 a1 w1 s2 W (of_laid hL) H0).mono fun e W' ⟨he,hg⟩=> ?_
 subst he
 exact ⟨_,rfl,⟨_,_,_,[],p,[],hW',(trodAll_cons_mk (shut_bool Tryd.underlying4 _) trodAll_mk0),args_stay laidOut hg (by kernel_rfl) hAk hlt,rfl,hg.frame _,fun h=>by cases h⟩⟩
theorem over:Rows.tableWalksRow.holds Tryd.pinned (OpenSpec.ofChange Rows.tableWalksSpec) :=
 OpenClaim.holds_of_wide 4 Tryd.f4 rfl rfl rfl rfl rfl rfl rfl ⟨rfl,rfl,rfl,rfl,rfl⟩ rfl rfl rfl rfl rfl (by kernel_rfl) Tryd.func4 (by kernel_rfl)
  (of_decide_eq_true (by kernel_rfl)) (by unfold Func.isWrapper;first | (rw [if_pos (by decide +kernel)];kernel_rfl) | (rw [if_neg (by decide +kernel)];exact ⟨rfl,rfl⟩))
  (fun os started H enc _=>lifted os started H enc)
theorem proved:Rows.TableWalksCardSaid :=
 Claim7.holds_tied_plain_at .later [] [.data] true (true, "64c8694732dce4494ae4c7601e39c35f2573908f76922d47bdd02e269d73e0bb") true
  over (fun _ h=>by cases h) (by kernel_rfl) (fun _ h=>by cases h) tableWalks_row_tie rfl ⟨rfl,rfl⟩ (by kernel_rfl) rfl
  (fun f fn hf hfn=>by
   obtain rfl : f = 4 := Option.some.inj ((show Tryd.prog.funcNamed "demesne/demesnelaw09.TableWalks" = some 4 by kernel_rfl).symm.trans hf) |>.symm
   obtain rfl:fn=Tryd.f4:=(Option.some.inj (Tryd.func4.symm.trans hfn)).symm
   exact ⟨by kernel_rfl,fun j t ht=>by
    rw [Tryd.params4] at ht
    have hm:t∈[22,52,54]:=by simpa using Array.mem_of_getElem? ht
    have hall:([22,52,54].all fun u=> !Tryd.prog.wantsStandIn u)=true:=by kernel_rfl
    exact (show Tryd.prog.wantsStandIn t=false by simpa using List.all_eq_true.1 hall t hm)⟩)
  (by kernel_rfl)
#print axioms proved
end Go.Proofs.YtkiclbnbnjbcaaaDoor.tableWalks
