import Derived.Test.YtajfbieacfjhnaaGreatDoorKZc
import Derived.Test.YtajfbieacfjhnaaGreatDoorADc
import Derived.Test.YtajfbieacfjhnaaGreatDoorMQc
namespace Go.Proofs.YtajfbieacfjhnaaGreatDoor.Au
open Go.ChangeShapes Go.WideShapes Go.ChangeAt Go.RowKit Go.Maps
open Go.Proofs.YtajfbieacfjhnaaGreatDoor.Tt
set_option linter.unusedSimpArgs false
set_option linter.unusedVariables false
set_option maxRecDepth 8000
theorem takeW_of (p:Us->Bool): ∀ (t:Nat) (a:List Us),(∀ x∈a.take t,p x=true)->(∀ h:t<a.length,p a[t]=false)->a.takeWhile p=a.take t/\a.dropWhile p=a.drop t
 | t, [], _, _ => by simp
 | 0, x :: a, _, h2 => by
  have:p x=false:=h2 (by simp)
  rw [List.takeWhile_cons,List.dropWhile_cons]
  simp [this]
 | t + 1, x :: a, h1, h2 => by
  have hx:p x=true:=h1 x (by simp)
  obtain ⟨e1,e2⟩:=takeW_of p t a (fun y hy=>h1 y (by simp [hy])) (fun h=>by
   have:=h2 (by simp;omega)
   simpa using this)
  rw [List.takeWhile_cons,List.dropWhile_cons,if_pos hx,if_pos hx,e1,e2]
  simp
theorem mrg_step {a:List Us} {u:Us} {b:List Us} {t:Nat} (h1: ∀ x∈a.take t,lexB x u=true) (h2: ∀ h:t<a.length,lexB a[t] u=false):mrg a (u::b)=a.take t++u::mrg (a.drop t) b:=by
 obtain ⟨e1,e2⟩:=takeW_of (fun x=>lexB x u) t a h1 h2
 show a.takeWhile _++u::mrg (a.dropWhile _) b=_
 rw [e1,e2]
theorem mrg_len (b a:List Us):(mrg a b).length=a.length+b.length:=by rw [(mrg_perm b a).length_eq,List.length_append]
theorem order_below (x y:Us) (W:World):Calls Tryz.prog 21 #[.agg #[.int .i64 x.1,.int .i64 x.2.1,.int .i64 x.2.2],.agg #[.int .i64 y.1,.int .i64 y.2.1,.int .i64 y.2.2]] W fun e w'=>e=.returned (.int .i64 (lexC x y))/\Below W.heap.size W w':=by
 refine (order_any x y W).mono ?_
 rintro e w' ⟨he,q,os',rfl⟩
 have b1:Below W.heap.size W (W.drewN q):=Bm.below_drewN (Below.refl _ _)
 refine ⟨he,b1.os,b1.tape,b1.output,Nat.le_trans b1.size (by simp [Go.Sort.grow]),fun j hj=> ?_⟩
 have:(Go.Sort.grow (W.drewN q) os').heap[j]? =(W.drewN q).heap[j]? :=Go.Sort.heap_grow_old _ _ (Nat.lt_of_lt_of_le hj b1.size)
 rw [this];exact b1.block j hj
theorem LQ.appAll {α :Type} {T S:TypeId} {k:Nat} {enc: α ->List Value} {z:Value} {bytes:Nat} (hk: ∀ x,(enc x).length=k) (h1: ∀ x,∀ u∈enc x,u.oneCell'=true) (k0:0<k) (hS:Tryz.prog.underlying S=some (.slice T)) (hI: ∃ i,Tryz.prog.info? T=some i/\i.zero=some z/\i.size=k/\i.bytes=bytes) (hz:z.cells.size=k) (hb8:bytes<=100)
 {w0:World} {Q:Nat->Prop} {V1 V:World} {v:Value} {A:List α} (h:LQ T k enc w0 Q V1 V v A) (B:List α) (g o m c:Nat) (hm:m=B.length) (hA:A.length+B.length<=1048576) (hB: ∀ i (hi:i<B.length),∀ j,j<k->V.cell? ⟨g,o+i*k+j,none⟩=(enc B[i])[j]?) :
 ∃ p n c' W2,(Builtin.append_ #[S,S] S #[v,.slice (some ⟨g,o,none⟩) m c]).run Tryz.prog V=.ok (.slice p n c') W2/\LQ T k enc w0 Q V1 W2 (.slice p n c') (A++B)/\V.heap.size<=W2.heap.size:=by
 obtain ⟨v',W2,r,ho,hg,hat⟩:=Bm.app_all hk h1 k0 hS hI hz hb8 w0.heap.size v A B g o m c hm hA V h.own hB h.bel.size
 obtain ⟨p,c',hv,_⟩:=(Bm.ol_ll hk ho).form
 subst hv
 refine ⟨p,_,c',W2,r,⟨ho,h.bel.grown hg h.bel.size (fun g e=>(Bm.row_lt h.own g e).1),fun g hg'=> ?_⟩,hg.size⟩
 obtain ⟨q1,q2,q3⟩:=h.oth g hg'
 refine ⟨Nat.lt_of_lt_of_le q1 hg.size,(hg.block g q1 (fun e=>q3 e.symm)).trans q2,?_⟩
 rcases hat with e | e
 . rw [e];exact q3
 . rw [e];intro h
   have:=Option.some.inj h
   omega
theorem wp_appR {P:Program} {w:World} {o:Oper} {a:Act} {K:Act->World->Prop} {Q:Exit->Act->World->Prop} (s x:Operand) (t:TypeId) (ho:o.op=.call { callee:=.builtin .append,args:= #[s,x],argTypes:= #[t,t] }) (vs vx:Value) (hs:a.eval s=vs) (hx:a.eval x=vx) (v':Value) (w1:World)
 (hr:(Builtin.append_ #[t,t] o.type #[vs,vx]).run P w=.ok v' w1) (h:K (a.put o.dst v') w1):o.wp P a w K Q:=by
 unfold Oper.wp execOp
 simp only [ho,resolve,invoke,builtin,Sem.run_bind,Sem.run_pure,Result.andThen_ok,List.map_toArray,List.map_cons,List.map_nil,hs,hx,hr]
 exact h
set_option maxHeartbeats 4000000 in
theorem merge_any (lo ga oa nA cA:Nat) (vb:Value) (A B:List Us) (W:World) (hA:UL W lo (.slice (some ⟨ga,oa,none⟩) nA cA) A) (hB:UL W lo vb B) (hn:A.length+B.length<=1000000) :
 Calls Tryz.prog 22 #[.slice (some ⟨ga,oa,none⟩) nA cA,vb] W fun e w'=> ∃ v,e=.returned v/\OU w' W.heap.size v (mrg A B)/\Below W.heap.size W w':=by
 obtain ⟨pa,ca',hva,hca,_,rda⟩:=hA.form
 have pe:pa=some ⟨ga,oa,none⟩:=by injection hva with e;exact e.symm
 have ne:nA=A.length:=by injection hva
 have ce:cA=ca':=by injection hva
 subst pe ce
 obtain ⟨pb,cb,hvb,hcb,_,rdb⟩:=hB.form
 obtain ⟨nB,hnB⟩: ∃ n,n=B.length:=⟨_,rfl⟩
 rw [<- hnB] at hvb
 subst hvb
 have RA:Hid (∀ i (hi:i<A.length),ga<W.heap.size/\ ∀ j,j<3->W.cell? ⟨ga,oa+i*3+j,none⟩=(eU A[i])[j]?):=fun i hi=>by
  obtain ⟨g,o,e,_,l,c⟩:=rda i hi
  cases e
  exact ⟨l,c⟩
 have LG0:Hid (0<A.length->ga<W.heap.size):=fun h=>(RA.out 0 h).1
 have RB:Hid (∀ i (hi:i<B.length),∃ g o,pb=some ⟨g,o,none⟩/\g<W.heap.size/\ ∀ j,j<3->W.cell? ⟨g,o+i*3+j,none⟩=(eU B[i])[j]?):=fun i hi=>by
  obtain ⟨g,o,e,_,l,c⟩:=rdb i hi
  exact ⟨g,o,e,l,c⟩
 have NN:Hid (nA=A.length/\nB=B.length/\A.length+B.length<=1000000):=⟨ne,hnB,hn⟩
 obtain ⟨RES,hR⟩: ∃ R,R=mrg A B:=⟨_,rfl⟩
 have HR:Hid (RES.length<=1000000):=by show _<=_;rw [hR,mrg_len];exact hn
 obtain ⟨N,hN⟩: ∃ N:Nat,N=nA+nB:=⟨_,rfl⟩
 have wN:IntKind.i64.wrap ((nA:Int)+(nB:Int))=(N:Int):=by rw [IntKind.wrap_i64];omega
 obtain ⟨i0,hi,hz0,hz1,hz2⟩:=infoU
 obtain ⟨w1,mk,ho,hg⟩:=Go.run_make_own (P:=Tryz.prog) (w:=W) W.heap.size 22 26 i0 _ 3 Tryz.underlying22 hi hz0 hz1 .i64 .i64 N (by rw [hz2];omega) (by unfold maxLen;omega) (Nat.le_refl _)
 have b1:Below W.heap.size W w1:=⟨hg.os,hg.tape,hg.output,hg.size,fun k hk=>hg.block k hk (by simp)⟩
 have J0:Hid ((0<nA->oa=oa+0*3)/\nA+0=nA/\nA<=cA/\QU W (fun _=>False) w1 w1 (.slice (some ⟨W.heap.size,0,none⟩) 0 N) []/\[]++mrg (A.drop 0) (B.drop 0)=RES):=⟨fun _=>by omega,rfl,by rw [ne];exact hca,⟨ho,b1,fun g hg=>hg.elim⟩,by rw [hR];rfl⟩
 have hnb:nA<=1000000/\nB<=1000000:=by omega
 rw [<- hR]
 have mk':Sem.run Tryz.prog (Instr.makeSlice 22 (.int .i64 0) (.int .i64 N)) W=.ok (.slice (some ⟨W.heap.size,0,none⟩) 0 N) w1:=mk
 clear hva hca rda hcb rdb hA hB hn ne hnB hR hN hi hz0 hz1 hz2 mk ho hg b1
 go_enter Tryz.func22,Tryz.ntmps22
 go_wp2_with fail
 clear mk'
 go_loopw [0,5,17] (fun va vl ii V=> ∃ (d n1 c1 o1 i:Nat) (Lc:List Us),i<=nB/\ii=.int .i64 i/\va=.slice (some ⟨ga,o1,none⟩) n1 c1/\n1<=nA/\n1<=c1/\Hid ((0<n1->o1=oa+d*3)/\n1+d=nA/\n1<=c1/\QU W (fun _=>False) V V vl Lc/\Lc++mrg (A.drop d) (B.drop i)=RES)) (fun _ _ ii _=>nB-(Go.RowKit.intOf ii).toNat)
 case atStart=>exact ⟨0,nA,cA,oa,0,[],by omega,rfl,rfl,Nat.le_refl _,J0.out.2.2.1,J0⟩
 case round =>
  clear J0
  obtain ⟨d,n1,c1,o1,i,Lc,hin,rfl,rfl,hn1,hnc,J⟩:=hrel
  by_cases ci:i<nB
  rotate_left
  . have d1:decide ((i:Int)<(nB:Int))=false:=by simp;omega
    have ei:i=B.length:=by have:=NN.out.2.1;omega
    have eL:Lc++A.drop d=RES:=by
     have q:=J.out.2.2.2.2
     rw [ei,List.drop_length] at q
     exact q
    obtain ⟨p,nn,c',W2,rr,J2,_⟩:=LQ.appAll eU_len eU_one (by decide) Tryz.underlying22 infoU rfl (by decide) J.out.2.2.2.1 (A.drop d) ga o1 n1 c1 (by rw [List.length_drop];have:=NN.out.1;have:=J.out.2.1;omega) (by
     have h1:=HR.out
     rw [<- eL,List.length_append] at h1;omega) (fun k hk j hj=>by
     rw [List.length_drop] at hk
     obtain ⟨l,c⟩:=RA.out (d+k) (by omega)
     have e:=J.out.1 (by have:=NN.out.1;have:=J.out.2.1;omega)
     rw [show o1+k*3+j=oa+(d+k)*3+j by omega,List.getElem_drop]
     exact (World.cell?_of_block (w:=W) (a:=⟨ga,oa+(d+k)*3+j,none⟩) (J.out.2.2.2.1.bel.block ga l)).trans (c j hj))
    have HE:Hid (OU W2 W.heap.size (.slice p nn c') RES/\Below W.heap.size W W2):=by
     rw [eL] at J2;exact ⟨J2.own,J2.bel⟩
    clear J2 J ei eL
    go_wp2_with (at_builtin;refine Bm.wpList_app rfl _ _ 22 rfl u5 (.slice (some ⟨ga,o1,none⟩) n1 c1) rfl rfl (.slice p nn c') W2 rr ?_)
    go_returns
    exact ⟨_,rfl,HE.out⟩
  have d1:decide ((i:Int)<(nB:Int))=true:=by simp;omega
  have iB:i<B.length:=by have:=NN.out.2.1;omega
  obtain ⟨g,ob,rfl,lg,rc⟩:=RB.out i iB
  have hbW:=J.out.2.2.2.1.bel
  have z0:wr.cell? ⟨g,ob+i*3,none⟩=some (.int .i64 B[i].1):=(World.cell?_of_block (hbW.block g lg)).trans (rc 0 (by omega))
  have z1:wr.cell? ⟨g,ob+i*3+1,none⟩=some (.int .i64 B[i].2.1):=(World.cell?_of_block (hbW.block g lg)).trans (rc 1 (by omega))
  have z2:wr.cell? ⟨g,ob+i*3+2,none⟩=some (.int .i64 B[i].2.2):=(World.cell?_of_block (hbW.block g lg)).trans (rc 2 (by omega))
  have ED:Hid (Lc++mrg (A.drop d) (B[i]::B.drop (i+1))=RES):=by
   have q:=J.out.2.2.2.2
   rw [List.drop_eq_getElem_cons iB] at q
   exact q
  have lgr:g<wr.heap.size:=Nat.lt_of_lt_of_le lg hbW.size
  generalize B[i]=y at z0 z1 z2 ED
  obtain ⟨y1,y2,y3⟩:=y
  simp only at z0 z1 z2
  have hb2:Below wr.heap.size wr (wr.alloc (.cells #[.int .i64 y1,.int .i64 y2,.int .i64 y3] 26)):=Go.Joins.below_alloc1 _ _
  have JB:Hid ((0<n1->o1=oa+d*3)/\n1+d=nA/\QU W (fun _=>False) (wr.alloc (.cells #[.int .i64 y1,.int .i64 y2,.int .i64 y3] 26)) (wr.alloc (.cells #[.int .i64 y1,.int .i64 y2,.int .i64 y3] 26)) u5 Lc/\u5.ownBlock≠some wr.heap.size/\Blk (wr.alloc (.cells #[.int .i64 y1,.int .i64 y2,.int .i64 y3] 26)) wr.heap.size [.int .i64 y1,.int .i64 y2,.int .i64 y3] 26):=⟨J.out.1,J.out.2.1,(J.out.2.2.2.1.below hb2).turn (fun g hg=>hg.elim),(fun e=>by have:=(Bm.row_lt J.out.2.2.2.1.own _ e).2;omega),Blk.made _ _ _⟩
  clear rc lg J hb2 hbW
  go_upto_region 5 with fail
  clear z0 z1 z2 lgr
  generalize (wr.alloc (.cells #[.int .i64 y1,.int .i64 y2,.int .i64 y3] 26))=wx at JB |-
  generalize wr.heap.size=q at JB |-
  have OC:Hid (∀ (x1 x2 x3:Int) V,Calls Tryz.prog 21 #[.agg #[.int .i64 x1,.int .i64 x2,.int .i64 x3],.agg #[.int .i64 y1,.int .i64 y2,.int .i64 y3]] V fun e w'=>e=.returned (.int .i64 (lexC (x1,x2,x3) (y1,y2,y3)))/\Below V.heap.size V w'):=fun x1 x2 x3 V=>order_below (x1,x2,x3) (y1,y2,y3) V
  go_wp2_with fail
  go_loopw [8] (fun tt V=> ∃ t:Nat,t<=n1/\tt=.int .i64 t/\Hid (Below wx.heap.size wx V)/\Hid (∀ x∈(A.drop d).take t,lexB x (y1,y2,y3)=true)) (fun tt _=>n1-(Go.RowKit.intOf tt).toNat)
  case atStart=>exact ⟨0,by omega,rfl,Below.refl _ _,fun x hx=>by simp at hx⟩
  case round =>
   obtain ⟨t,ht,rfl,KX,LX⟩:=hrel
   by_cases ct:t<n1
   . have d2:decide ((t:Int)<(n1:Int))=true:=by simp;omega
     have tA:d+t<A.length:=by have:=JB.out.2.1;have:=NN.out.1;omega
     obtain ⟨la,ra⟩:=RA.out (d+t) tA
     have AD:Hid (∀ h:t<(A.drop d).length,(A.drop d)[t]=A[d+t]):=fun h=>List.getElem_drop
     have LG:Hid (ga<wr.heap.size):=Nat.lt_of_lt_of_le la (Nat.le_trans JB.out.2.2.1.bel.size KX.out.size)
     have bw:Below W.heap.size W wr:=below_then JB.out.2.2.1.bel KX.out
     have SS:Hid (wr.cell? ⟨ga,o1+t*3,none⟩=some (.int .i64 A[d+t].1)/\wr.cell? ⟨ga,o1+t*3+1,none⟩=some (.int .i64 A[d+t].2.1)/\wr.cell? ⟨ga,o1+t*3+2,none⟩=some (.int .i64 A[d+t].2.2)/\Blk wr q [.int .i64 y1,.int .i64 y2,.int .i64 y3] 26):=by
      have e:=JB.out.1 (by omega)
      have f: ∀ j,j<3->wr.cell? ⟨ga,o1+t*3+j,none⟩=(eU A[d+t])[j]? :=fun j hj=>by
       rw [show o1+t*3+j=oa+(d+t)*3+j by omega]
       exact (World.cell?_of_block (w:=W) (a:=⟨ga,oa+(d+t)*3+j,none⟩) (bw.block ga la)).trans (ra j hj)
      exact ⟨f 0 (by omega),f 1 (by omega),f 2 (by omega),JB.out.2.2.2.2.below KX.out⟩
     generalize A[d+t]=x at SS AD
     obtain ⟨x1,x2,x3⟩:=x
     simp only at SS
     by_cases cl:lexC (x1,x2,x3) (y1,y2,y3)<0
     . have d3:decide (lexC (x1,x2,x3) (y1,y2,y3)<0)=true:=by simp [cl]
       have LN:Hid (∀ x∈(A.drop d).take (t+1),lexB x (y1,y2,y3)=true):=fun x hx=>by
        have l:t<(A.drop d).length:=by rw [List.length_drop];omega
        rw [List.take_succ_eq_append_getElem l] at hx
        rcases List.mem_append.1 hx with h | h
        . exact LX.out x h
        . simp only [List.mem_singleton] at h
          rw [h,AD.out l];exact d3
       have O1:Hid (∀ V,_):=fun V=>OC.out x1 x2 x3 V
       clear ra la bw AD cl LX tA
       generalize lexC (x1,x2,x3) (y1,y2,y3)=r at O1 d3
       go_upto_region 6 with fail
       refine wp_region_noPanic ?_
       refine wp_region_held_drew (S:=fun cw=>cw.cell? ⟨ga,o1+t*3,none⟩=some (.int .i64 x1)/\cw.cell? ⟨ga,o1+t*3+1,none⟩=some (.int .i64 x2)/\cw.cell? ⟨ga,o1+t*3+2,none⟩=some (.int .i64 x3)/\Blk cw q [.int .i64 y1,.int .i64 y2,.int .i64 y3] 26) (by kernel_rfl) ?_ (fun hHeld=> ?_)
       . exact SS.out
       have KU:Hid (Below wx.heap.size wx wr.drew/\ga<wr.drew.heap.size):=⟨Bm.below_drewN (m:=1) KX.out,LG.out⟩
       clear KX LG
       generalize wr.drew=U at hHeld KU |-
       refine tk 0 21 ?_ rfl (Or.inl ⟨by rfl,?_⟩) ?_
       rotate_left
       . intro w hSw;(try dsimp only at hSw);go_simp;(try with_reducible rfl)
       try simp only [Act.put,List.setIfInBounds_toArray,List.set_cons_zero,List.set_cons_succ]
       refine tk 1 22 ?_ rfl (Or.inl ⟨by rfl,?_⟩) ?_
       rotate_left
       . intro w hSw;(try dsimp only at hSw);go_simp;(try with_reducible rfl)
       try simp only [Act.put,List.setIfInBounds_toArray,List.set_cons_zero,List.set_cons_succ]
       refine tk 2 23 ?_ rfl (Or.inl ⟨by rfl,?_⟩) ?_
       rotate_left
       . intro w hSw;(try dsimp only at hSw);go_simp;(try with_reducible rfl)
       try simp only [Act.put,List.setIfInBounds_toArray,List.set_cons_zero,List.set_cons_succ]
       refine tk 3 24 (.bool true) rfl (Or.inl ⟨by rfl,?_⟩) ?_
       . intro w hSw;(try dsimp only at hSw);go_simp;(try simp);(try (simp only [IntKind.wrap_i64];omega))
       try simp only [Act.put,List.setIfInBounds_toArray,List.set_cons_zero,List.set_cons_succ]
       refine tk 4 25 ?_ rfl (Or.inl ⟨by rfl,?_⟩) ?_
       rotate_left
       . intro w hSw;(try dsimp only at hSw);go_simp;(try with_reducible rfl)
       try simp only [Act.put,List.setIfInBounds_toArray,List.set_cons_zero,List.set_cons_succ]
       refine wpAnyH_take (i:=5) (oi:=⟨some 26,_,_,_,_,some (4,true)⟩) (v:= ?_) rfl (by kernel_rfl) (by kernel_rfl) (by kernel_rfl) (fun _ _ _ h=>h) (Or.inl ⟨by rfl,?_⟩) (by assumption) ?_
       rotate_left
       . intro w hSw;(try dsimp only at hSw);go_simp;(try with_reducible rfl)
       try simp only [Act.put,List.setIfInBounds_toArray,List.set_cons_zero,List.set_cons_succ]
       refine wpAnyH_take (i:=6) (oi:=⟨some 27,_,_,_,_,some (4,true)⟩) (v:= ?_) rfl (by kernel_rfl) (by kernel_rfl) (by kernel_rfl) (fun _ _ _ h=>h) (Or.inl ⟨by rfl,?_⟩) (by assumption) ?_
       rotate_left
       . intro w hSw;(try dsimp only at hSw);go_simp;(try with_reducible rfl)
       try simp only [Act.put,List.setIfInBounds_toArray,List.set_cons_zero,List.set_cons_succ]
       refine wpAnyH_take (i:=7) (oi:=⟨some 28,_,_,_,_,some (4,true)⟩) (v:= ?_) rfl (by kernel_rfl) (by kernel_rfl) (by kernel_rfl) (fun _ _ _ h=>h) (Or.inl ⟨by rfl,?_⟩) (by assumption) ?_
       rotate_left
       . intro w hSw;(try dsimp only at hSw);go_simp;(try with_reducible rfl)
       try simp only [Act.put,List.setIfInBounds_toArray,List.set_cons_zero,List.set_cons_succ]
       refine wpAnyH_take (i:=8) (oi:=⟨some 29,_,_,_,_,some (4,true)⟩) (v:=(.agg #[.int .i64 x1,.int .i64 x2,.int .i64 x3])) rfl (by kernel_rfl) (by kernel_rfl) (by kernel_rfl) (fun _ _ _ h=>h) (Or.inl ⟨by rfl,?_⟩) (by assumption) ?_
       . intro w hSw;(try dsimp only at hSw);have r0:=hSw.1;have r1:=hSw.2.1;have r2:=hSw.2.2.1;(try go_simp);(try simp [*])
       try simp only [Act.put,List.setIfInBounds_toArray,List.set_cons_zero,List.set_cons_succ]
       refine wpAnyH_take (i:=9) (oi:=⟨some 30,_,_,_,_,some (4,true)⟩) (v:=(.agg #[.int .i64 y1,.int .i64 y2,.int .i64 y3])) rfl (by kernel_rfl) (by kernel_rfl) (by kernel_rfl) (fun _ _ _ h=>h) (Or.inl ⟨by rfl,?_⟩) (by assumption) ?_
       . intro w hSw;(try dsimp only at hSw);have r0:=Blk.cell hSw.2.2.2 0;have r1:=Blk.cell hSw.2.2.2 1;have r2:=Blk.cell hSw.2.2.2 2;(try go_simp);(try simp [*])
       try simp only [Act.put,List.setIfInBounds_toArray,List.set_cons_zero,List.set_cons_succ]
       refine wpAnyH_ready (rs:=[10]) (by kernel_rfl) (by simp) ?_
       refine AllReadyH.cons (o:=⟨some 31,_,_,_,_,some (4,true)⟩) rfl (fun Kc hK=> ?_) AllReadyH.nil
       go_simp
       go_wp2_with (go_at_call 21;refine Calls.mono (O1.out _) ?_;rintro e w2 ⟨rfl,hb⟩)
       have KV:Hid (Below wx.heap.size wx w2):=below_then KU.out.1 hb
       refine hK.out _ _ ⟨(World.cell?_of_block (hb.block ga KU.out.2)).trans hHeld.1,(World.cell?_of_block (hb.block ga KU.out.2)).trans hHeld.2.1,(World.cell?_of_block (hb.block ga KU.out.2)).trans hHeld.2.2.1,hHeld.2.2.2.below hb⟩ (fun hHeld2=> ?_)
       clear hK Kc hHeld KU hb
       have hHeld:=hHeld2
       clear hHeld2
       try simp only [Act.put,List.setIfInBounds_toArray,List.set_cons_zero,List.set_cons_succ]
       refine wpAnyH_take (i:=11) (oi:=⟨some 32,_,_,_,_,some (4,true)⟩) (v:=(.bool true)) rfl (by kernel_rfl) (by kernel_rfl) (by kernel_rfl) (fun _ _ _ h=>h) (Or.inl ⟨by rfl,?_⟩) (by assumption) ?_
       . intro w hSw;(try dsimp only at hSw);go_simp;(try simp);(try (simp only [IntKind.wrap_i64];omega))
       try simp only [Act.put,List.setIfInBounds_toArray,List.set_cons_zero,List.set_cons_succ]
       refine tk 12 33 ?_ rfl (Or.inl ⟨by rfl,?_⟩) ?_
       rotate_left
       . intro w hSw;(try dsimp only at hSw);go_simp;(try with_reducible rfl)
       try simp only [Act.put,List.setIfInBounds_toArray,List.set_cons_zero,List.set_cons_succ]
       clear hHeld
       refine wpAnyH_done (by kernel_rfl) ?_ _
       refine NoPanic.normal ?_
       go_wp2_with fail
       go_roundw
       case rel=>exact ⟨t+1,by omega,by go_num,KV,LN⟩
       case measure=>simp only [Go.RowKit.intOf];omega
     . have d3:decide (lexC (x1,x2,x3) (y1,y2,y3)<0)=false:=by simp;omega
       have MS:Hid (mrg (A.drop d) ((y1,y2,y3)::B.drop (i+1))=(A.drop d).take t++(y1,y2,y3)::mrg ((A.drop d).drop t) (B.drop (i+1))):=mrg_step LX.out (fun h=>by rw [AD.out h];exact d3)
       have O1:Hid (∀ V,_):=fun V=>OC.out x1 x2 x3 V
       clear ra la bw AD cl LX tA
       generalize lexC (x1,x2,x3) (y1,y2,y3)=r at O1 d3
       go_upto_region 6 with fail
       refine wp_region_noPanic ?_
       refine wp_region_held_drew (S:=fun cw=>cw.cell? ⟨ga,o1+t*3,none⟩=some (.int .i64 x1)/\cw.cell? ⟨ga,o1+t*3+1,none⟩=some (.int .i64 x2)/\cw.cell? ⟨ga,o1+t*3+2,none⟩=some (.int .i64 x3)/\Blk cw q [.int .i64 y1,.int .i64 y2,.int .i64 y3] 26) (by kernel_rfl) ?_ (fun hHeld=> ?_)
       . exact SS.out
       have KU:Hid (Below wx.heap.size wx wr.drew/\ga<wr.drew.heap.size):=⟨Bm.below_drewN (m:=1) KX.out,LG.out⟩
       clear KX LG
       generalize wr.drew=U at hHeld KU |-
       refine tk 0 21 ?_ rfl (Or.inl ⟨by rfl,?_⟩) ?_
       rotate_left
       . intro w hSw;(try dsimp only at hSw);go_simp;(try with_reducible rfl)
       try simp only [Act.put,List.setIfInBounds_toArray,List.set_cons_zero,List.set_cons_succ]
       refine tk 1 22 ?_ rfl (Or.inl ⟨by rfl,?_⟩) ?_
       rotate_left
       . intro w hSw;(try dsimp only at hSw);go_simp;(try with_reducible rfl)
       try simp only [Act.put,List.setIfInBounds_toArray,List.set_cons_zero,List.set_cons_succ]
       refine tk 2 23 ?_ rfl (Or.inl ⟨by rfl,?_⟩) ?_
       rotate_left
       . intro w hSw;(try dsimp only at hSw);go_simp;(try with_reducible rfl)
       try simp only [Act.put,List.setIfInBounds_toArray,List.set_cons_zero,List.set_cons_succ]
       refine tk 3 24 (.bool true) rfl (Or.inl ⟨by rfl,?_⟩) ?_
       . intro w hSw;(try dsimp only at hSw);go_simp;(try simp);(try (simp only [IntKind.wrap_i64];omega))
       try simp only [Act.put,List.setIfInBounds_toArray,List.set_cons_zero,List.set_cons_succ]
       refine tk 4 25 ?_ rfl (Or.inl ⟨by rfl,?_⟩) ?_
       rotate_left
       . intro w hSw;(try dsimp only at hSw);go_simp;(try with_reducible rfl)
       try simp only [Act.put,List.setIfInBounds_toArray,List.set_cons_zero,List.set_cons_succ]
       refine wpAnyH_take (i:=5) (oi:=⟨some 26,_,_,_,_,some (4,true)⟩) (v:= ?_) rfl (by kernel_rfl) (by kernel_rfl) (by kernel_rfl) (fun _ _ _ h=>h) (Or.inl ⟨by rfl,?_⟩) (by assumption) ?_
       rotate_left
       . intro w hSw;(try dsimp only at hSw);go_simp;(try with_reducible rfl)
       try simp only [Act.put,List.setIfInBounds_toArray,List.set_cons_zero,List.set_cons_succ]
       refine wpAnyH_take (i:=6) (oi:=⟨some 27,_,_,_,_,some (4,true)⟩) (v:= ?_) rfl (by kernel_rfl) (by kernel_rfl) (by kernel_rfl) (fun _ _ _ h=>h) (Or.inl ⟨by rfl,?_⟩) (by assumption) ?_
       rotate_left
       . intro w hSw;(try dsimp only at hSw);go_simp;(try with_reducible rfl)
       try simp only [Act.put,List.setIfInBounds_toArray,List.set_cons_zero,List.set_cons_succ]
       refine wpAnyH_take (i:=7) (oi:=⟨some 28,_,_,_,_,some (4,true)⟩) (v:= ?_) rfl (by kernel_rfl) (by kernel_rfl) (by kernel_rfl) (fun _ _ _ h=>h) (Or.inl ⟨by rfl,?_⟩) (by assumption) ?_
       rotate_left
       . intro w hSw;(try dsimp only at hSw);go_simp;(try with_reducible rfl)
       try simp only [Act.put,List.setIfInBounds_toArray,List.set_cons_zero,List.set_cons_succ]
       refine wpAnyH_take (i:=8) (oi:=⟨some 29,_,_,_,_,some (4,true)⟩) (v:=(.agg #[.int .i64 x1,.int .i64 x2,.int .i64 x3])) rfl (by kernel_rfl) (by kernel_rfl) (by kernel_rfl) (fun _ _ _ h=>h) (Or.inl ⟨by rfl,?_⟩) (by assumption) ?_
       . intro w hSw;(try dsimp only at hSw);have r0:=hSw.1;have r1:=hSw.2.1;have r2:=hSw.2.2.1;(try go_simp);(try simp [*])
       try simp only [Act.put,List.setIfInBounds_toArray,List.set_cons_zero,List.set_cons_succ]
       refine wpAnyH_take (i:=9) (oi:=⟨some 30,_,_,_,_,some (4,true)⟩) (v:=(.agg #[.int .i64 y1,.int .i64 y2,.int .i64 y3])) rfl (by kernel_rfl) (by kernel_rfl) (by kernel_rfl) (fun _ _ _ h=>h) (Or.inl ⟨by rfl,?_⟩) (by assumption) ?_
       . intro w hSw;(try dsimp only at hSw);have r0:=Blk.cell hSw.2.2.2 0;have r1:=Blk.cell hSw.2.2.2 1;have r2:=Blk.cell hSw.2.2.2 2;(try go_simp);(try simp [*])
       try simp only [Act.put,List.setIfInBounds_toArray,List.set_cons_zero,List.set_cons_succ]
       refine wpAnyH_ready (rs:=[10]) (by kernel_rfl) (by simp) ?_
       refine AllReadyH.cons (o:=⟨some 31,_,_,_,_,some (4,true)⟩) rfl (fun Kc hK=> ?_) AllReadyH.nil
       go_simp
       go_wp2_with (go_at_call 21;refine Calls.mono (O1.out _) ?_;rintro e w2 ⟨rfl,hb⟩)
       have KV:Hid (Below wx.heap.size wx w2):=below_then KU.out.1 hb
       refine hK.out _ _ ⟨(World.cell?_of_block (hb.block ga KU.out.2)).trans hHeld.1,(World.cell?_of_block (hb.block ga KU.out.2)).trans hHeld.2.1,(World.cell?_of_block (hb.block ga KU.out.2)).trans hHeld.2.2.1,hHeld.2.2.2.below hb⟩ (fun hHeld2=> ?_)
       clear hK Kc hHeld KU hb
       have hHeld:=hHeld2
       clear hHeld2
       try simp only [Act.put,List.setIfInBounds_toArray,List.set_cons_zero,List.set_cons_succ]
       refine wpAnyH_take (i:=11) (oi:=⟨some 32,_,_,_,_,some (4,true)⟩) (v:=(.bool false)) rfl (by kernel_rfl) (by kernel_rfl) (by kernel_rfl) (fun _ _ _ h=>h) (Or.inl ⟨by rfl,?_⟩) (by assumption) ?_
       . intro w hSw;(try dsimp only at hSw);go_simp;(try simp);(try (simp only [IntKind.wrap_i64];omega))
       try simp only [Act.put,List.setIfInBounds_toArray,List.set_cons_zero,List.set_cons_succ]
       refine tk 12 33 ?_ rfl (Or.inl ⟨by rfl,?_⟩) ?_
       rotate_left
       . intro w hSw;(try dsimp only at hSw);go_simp;(try with_reducible rfl)
       try simp only [Act.put,List.setIfInBounds_toArray,List.set_cons_zero,List.set_cons_succ]
       clear hHeld
       refine wpAnyH_done (by kernel_rfl) ?_ _
       refine NoPanic.normal ?_
       go_upto_region 8 with fail
       have EQ:Hid (Lc++((A.drop d).take t++(y1,y2,y3)::mrg ((A.drop d).drop t) (B.drop (i+1)))=RES):=by
        have q:=ED.out
        rw [MS.out] at q;exact q
       have LM:Hid (Lc.length+((A.drop d).take t).length+1<=1000000):=by
        have h1:=HR.out
        rw [<- EQ.out,List.length_append,List.length_append,List.length_cons] at h1
        show _<=_
        omega
       have JZ:Hid (QU W (fun g=>g=q) wx w2 u5 Lc):=(JB.out.2.2.1.turn (fun g hg=>by rw [hg];exact ⟨JB.out.2.2.2.2.lt,JB.out.2.2.2.1⟩)).below KV.out
       have bt:t<=c1:=by omega
       clear MS OC
       refine wp_region_noPanic ?_
       refine wp_region_held_drew (S:=fun cw=>Blk cw q [.int .i64 y1,.int .i64 y2,.int .i64 y3] 26) (by kernel_rfl) ?_ (fun hHeld=> ?_)
       . exact JB.out.2.2.2.2.below (Bm.below_drewN (m:=1) KV.out)
       have J8:Hid (QU W (fun g=>g=q) wx w2.drew u5 Lc):=JZ.out.below (Bm.below_drewN (m:=1) (Below.refl _ _))
       clear KV JZ
       generalize w2.drew=U8 at hHeld J8 |-
       refine tk 0 36 ?_ rfl (Or.inl ⟨by rfl,?_⟩) ?_
       rotate_left
       . intro w hSw;(try dsimp only at hSw);go_simp;(try with_reducible rfl)
       try simp only [Act.put,List.setIfInBounds_toArray,List.set_cons_zero,List.set_cons_succ]
       refine tk 1 37 ?_ rfl (Or.inl ⟨by rfl,?_⟩) ?_
       rotate_left
       . intro w hSw;(try dsimp only at hSw);go_simp;(try with_reducible rfl)
       try simp only [Act.put,List.setIfInBounds_toArray,List.set_cons_zero,List.set_cons_succ]
       refine tk 2 38 ?_ rfl (Or.inl ⟨by rfl,?_⟩) ?_
       rotate_left
       . intro w hSw;(try dsimp only at hSw);go_simp;(try with_reducible rfl)
       try simp only [Act.put,List.setIfInBounds_toArray,List.set_cons_zero,List.set_cons_succ]
       refine tk 3 39 ((.slice (some ⟨ga,o1,none⟩) t c1)) rfl (Or.inl ⟨by rfl,?_⟩) ?_
       . intro w hSw;(try dsimp only at hSw);go_simp;(try simp);(try (simp only [IntKind.wrap_i64];omega))
       try simp only [Act.put,List.setIfInBounds_toArray,List.set_cons_zero,List.set_cons_succ]
       refine tk 5 41 (.agg #[.int .i64 y1,.int .i64 y2,.int .i64 y3]) rfl (Or.inl ⟨by rfl,?_⟩) ?_
       . intro w hSw;(try dsimp only at hSw);have r0:=Blk.cell hSw 0;have r1:=Blk.cell hSw 1;have r2:=Blk.cell hSw 2;(try go_simp);(try simp [*])
       try simp only [Act.put,List.setIfInBounds_toArray,List.set_cons_zero,List.set_cons_succ]
       refine wpAnyH_ready (rs:=[4,6]) (by kernel_rfl) (by simp) ?_
       refine AllReadyH.cons (o:=⟨some 40,_,_,_,_,none⟩) rfl (fun Kc hK=> ?_) (AllReadyH.cons (o:=⟨some 42,_,_,_,_,none⟩) rfl (fun Kc hK=> ?_) AllReadyH.nil)
       . obtain ⟨p1,k1,e1,W1,r1,J1,_⟩:=LQ.appAll eU_len eU_one (by decide) Tryz.underlying22 infoU rfl (by decide) J8.out ((A.drop d).take t) ga o1 t c1 (by rw [List.length_take,List.length_drop];have:=JB.out.2.1;have:=NN.out.1;omega) (by have:=LM.out;omega) (fun i hi j hj=>by
          rw [List.length_take,List.length_drop] at hi
          obtain ⟨l,c⟩:=RA.out (d+i) (by omega)
          have e:=JB.out.1 (by have:=JB.out.2.1;have:=NN.out.1;omega)
          rw [show o1+i*3+j=oa+(d+i)*3+j by omega,List.getElem_take,List.getElem_drop]
          exact (World.cell?_of_block (w:=W) (a:=⟨ga,oa+(d+i)*3+j,none⟩) (J8.out.bel.block ga l)).trans (c j hj))
         refine wp_appR (.tmp 36) (.tmp 39) 22 rfl u5 (.slice (some ⟨ga,o1,none⟩) t c1) rfl rfl (.slice p1 k1 e1) W1 r1 ?_
         have J1:Hid _:=J1
         have hq:Blk W1 q [.int .i64 y1,.int .i64 y2,.int .i64 y3] 26:=((((J1.out).oth q (by first | rfl | exact Or.inl rfl)).2.1).trans JB.out.2.2.2.2)
         refine hK.out _ _ hq (fun hHeld2=> ?_)
         clear hq r1 J8
         clear hK Kc hHeld
         have hHeld:=hHeld2
         clear hHeld2
         try simp only [Act.put,List.setIfInBounds_toArray,List.set_cons_zero,List.set_cons_succ]
         refine wpAnyH_ready (rs:=[6]) (by kernel_rfl) (by simp) ?_
         refine AllReadyH.cons (o:=⟨some 42,_,_,_,_,none⟩) rfl (fun Kc hK=> ?_) AllReadyH.nil
         go_simp
         have gb:Below W1.heap.size W1 (W1.alloc (.cells #[.int .i64 y1,.int .i64 y2,.int .i64 y3] 26)):=Go.Joins.below_alloc1 _ _
         obtain ⟨p2,k2,e2,W2,r2,J2⟩:=LQ.app eU_len eU_one (by decide) Tryz.underlying22 infoU rfl (by decide) J1.out (by rw [List.length_append];have:=LM.out;omega) (y1,y2,y3)
         have J2:Hid _:=J2
         refine hK.out _ _ (hHeld.below gb) (fun hHeld2=> ?_)
         clear J1 gb
         clear hK Kc hHeld
         have hHeld:=hHeld2
         clear hHeld2
         try simp only [Act.put,List.setIfInBounds_toArray,List.set_cons_zero,List.set_cons_succ]
         simp only [eU] at r2
         refine wpAnyH_ready (rs:=[7]) (by kernel_rfl) (by simp) ?_
         refine AllReadyH.cons (o:=⟨some 43,_,_,_,_,none⟩) rfl (fun Kc hK=> ?_) AllReadyH.nil
         refine wp_appR (.tmp 40) (.tmp 42) 22 rfl (.slice p1 k1 e1) (.slice (some ⟨W1.heap.size,0,none⟩) 1 1) rfl rfl (.slice p2 k2 e2) W2 r2 ?_
         have hq:Blk W2 q [.int .i64 y1,.int .i64 y2,.int .i64 y3] 26:=((((J2.out).oth q (by first | rfl | exact Or.inl rfl)).2.1).trans JB.out.2.2.2.2)
         refine hK.out _ _ hq (fun hHeld2=> ?_)
         clear hq r2
         clear hK Kc hHeld
         have hHeld:=hHeld2
         clear hHeld2
         try simp only [Act.put,List.setIfInBounds_toArray,List.set_cons_zero,List.set_cons_succ]
         refine tk 8 5 ?_ rfl (Or.inl ⟨by rfl,?_⟩) ?_
         rotate_left
         . intro w hSw;(try dsimp only at hSw);go_simp;(try with_reducible rfl)
         try simp only [Act.put,List.setIfInBounds_toArray,List.set_cons_zero,List.set_cons_succ]
         clear hHeld
         refine wpAnyH_done (by kernel_rfl) ?_ _
         refine NoPanic.normal ?_
         have FIN:Hid ((n1-t)+(d+t)=nA/\n1-t<=c1-t/\QU W (fun _=>False) W2 W2 (.slice p2 k2 e2) (Lc++(A.drop d).take t++[(y1,y2,y3)])/\(Lc++(A.drop d).take t++[(y1,y2,y3)])++mrg (A.drop (d+t)) (B.drop (i+1))=RES):=by
          have e2:=JB.out.2.1
          refine ⟨by omega,by omega,(J2.out).turn (fun g hg=>hg.elim),?_⟩
          have q:=EQ.out
          rw [List.drop_drop] at q
          rw [<- q];simp
         clear J2
         go_wp2_with fail
         go_roundw
         case rel=>exact ⟨d+t,n1-t,c1-t,o1+t*3,i+1,_,by omega,by go_num,rfl,by omega,by omega,fun h=>by have:=JB.out.1 (by omega);omega,FIN.out⟩
         case measure=>simp only [Go.RowKit.intOf];omega
       . go_simp
         have gb:Below U8.heap.size U8 (U8.alloc (.cells #[.int .i64 y1,.int .i64 y2,.int .i64 y3] 26)):=Go.Joins.below_alloc1 _ _
         have BN:Hid (Blk (U8.alloc (.cells #[.int .i64 y1,.int .i64 y2,.int .i64 y3] 26)) U8.heap.size [.int .i64 y1,.int .i64 y2,.int .i64 y3] 26):=Blk.made _ _ _
         have J9:Hid (QU W (fun g=>g=q\/(U8.heap.size<=g/\g<(U8.alloc (.cells #[.int .i64 y1,.int .i64 y2,.int .i64 y3] 26)).heap.size)) (U8.alloc (.cells #[.int .i64 y1,.int .i64 y2,.int .i64 y3] 26)) (U8.alloc (.cells #[.int .i64 y1,.int .i64 y2,.int .i64 y3] 26)) u5 Lc/\Blk (U8.alloc (.cells #[.int .i64 y1,.int .i64 y2,.int .i64 y3] 26)) q [.int .i64 y1,.int .i64 y2,.int .i64 y3] 26):=⟨J8.out.more gb,hHeld.below gb⟩
         refine hK.out _ _ (hHeld.below gb) (fun hHeld2=> ?_)
         clear gb J8
         clear hK Kc hHeld
         have hHeld:=hHeld2
         clear hHeld2
         try simp only [Act.put,List.setIfInBounds_toArray,List.set_cons_zero,List.set_cons_succ]
         have szn:(U8.alloc (.cells #[.int .i64 y1,.int .i64 y2,.int .i64 y3] 26)).heap.size=U8.heap.size+1:=World.size_alloc _ _
         rw [szn] at J9
         clear szn
         generalize (U8.alloc (.cells #[.int .i64 y1,.int .i64 y2,.int .i64 y3] 26))=U9 at hHeld BN J9 |-
         generalize U8.heap.size=q8 at BN J9 |-
         refine wpAnyH_ready (rs:=[4]) (by kernel_rfl) (by simp) ?_
         refine AllReadyH.cons (o:=⟨some 40,_,_,_,_,none⟩) rfl (fun Kc hK=> ?_) AllReadyH.nil
         obtain ⟨p1,k1,e1,W1,r1,J1,_⟩:=LQ.appAll eU_len eU_one (by decide) Tryz.underlying22 infoU rfl (by decide) J9.out.1 ((A.drop d).take t) ga o1 t c1 (by rw [List.length_take,List.length_drop];have:=JB.out.2.1;have:=NN.out.1;omega) (by have:=LM.out;omega) (fun i hi j hj=>by
          rw [List.length_take,List.length_drop] at hi
          obtain ⟨l,c⟩:=RA.out (d+i) (by omega)
          have e:=JB.out.1 (by have:=JB.out.2.1;have:=NN.out.1;omega)
          rw [show o1+i*3+j=oa+(d+i)*3+j by omega,List.getElem_take,List.getElem_drop]
          exact (World.cell?_of_block (w:=W) (a:=⟨ga,oa+(d+i)*3+j,none⟩) (J9.out.1.bel.block ga l)).trans (c j hj))
         refine wp_appR (.tmp 36) (.tmp 39) 22 rfl u5 (.slice (some ⟨ga,o1,none⟩) t c1) rfl rfl (.slice p1 k1 e1) W1 r1 ?_
         have J1:Hid _:=J1
         have hq:Blk W1 q [.int .i64 y1,.int .i64 y2,.int .i64 y3] 26:=(((J1.out).oth q (Or.inl rfl)).2.1).trans J9.out.2
         refine hK.out _ _ hq (fun hHeld2=> ?_)
         clear hq r1
         clear hK Kc hHeld
         have hHeld:=hHeld2
         clear hHeld2
         try simp only [Act.put,List.setIfInBounds_toArray,List.set_cons_zero,List.set_cons_succ]
         refine wpAnyH_ready (rs:=[7]) (by kernel_rfl) (by simp) ?_
         refine AllReadyH.cons (o:=⟨some 43,_,_,_,_,none⟩) rfl (fun Kc hK=> ?_) AllReadyH.nil
         obtain ⟨p2,k2,e2,W2,r2,J2,_⟩:=LQ.appAll eU_len eU_one (by decide) Tryz.underlying22 infoU rfl (by decide) J1.out [(y1,y2,y3)] q8 0 1 1 rfl (by rw [List.length_append,List.length_singleton];have:=LM.out;omega) (fun i hi j hj=>by
          have i0:i=0:=by simp at hi;omega
          subst i0
          rw [show 0+0*3+j=j by omega]
          have hb:Blk W1 q8 [.int .i64 y1,.int .i64 y2,.int .i64 y3] 26:=((J1.out.oth q8 (Or.inr ⟨by omega,by omega⟩)).2.1).trans BN.out
          exact hb.cell j)
         refine wp_appR (.tmp 40) (.tmp 42) 22 rfl (.slice p1 k1 e1) (.slice (some ⟨q8,0,none⟩) 1 1) rfl rfl (.slice p2 k2 e2) W2 r2 ?_
         have J2:Hid _:=J2
         have hq:Blk W2 q [.int .i64 y1,.int .i64 y2,.int .i64 y3] 26:=(((J2.out).oth q (Or.inl rfl)).2.1).trans J9.out.2
         refine hK.out _ _ hq (fun hHeld2=> ?_)
         clear hq r2 J1
         clear hK Kc hHeld
         have hHeld:=hHeld2
         clear hHeld2
         try simp only [Act.put,List.setIfInBounds_toArray,List.set_cons_zero,List.set_cons_succ]
         refine tk 8 5 ?_ rfl (Or.inl ⟨by rfl,?_⟩) ?_
         rotate_left
         . intro w hSw;(try dsimp only at hSw);go_simp;(try with_reducible rfl)
         try simp only [Act.put,List.setIfInBounds_toArray,List.set_cons_zero,List.set_cons_succ]
         clear hHeld
         refine wpAnyH_done (by kernel_rfl) ?_ _
         refine NoPanic.normal ?_
         clear J9 BN
         have FIN:Hid ((n1-t)+(d+t)=nA/\n1-t<=c1-t/\QU W (fun _=>False) W2 W2 (.slice p2 k2 e2) (Lc++(A.drop d).take t++[(y1,y2,y3)])/\(Lc++(A.drop d).take t++[(y1,y2,y3)])++mrg (A.drop (d+t)) (B.drop (i+1))=RES):=by
          have e2:=JB.out.2.1
          refine ⟨by omega,by omega,(J2.out).turn (fun g hg=>hg.elim),?_⟩
          have q:=EQ.out
          rw [List.drop_drop] at q
          rw [<- q];simp
         clear J2
         go_wp2_with fail
         go_roundw
         case rel=>exact ⟨d+t,n1-t,c1-t,o1+t*3,i+1,_,by omega,by go_num,rfl,by omega,by omega,fun h=>by have:=JB.out.1 (by omega);omega,FIN.out⟩
         case measure=>simp only [Go.RowKit.intOf];omega
   have d2:decide ((t:Int)<(n1:Int))=false:=by simp;omega
   have MS:Hid (mrg (A.drop d) ((y1,y2,y3)::B.drop (i+1))=(A.drop d).take t++(y1,y2,y3)::mrg ((A.drop d).drop t) (B.drop (i+1))):=mrg_step LX.out (fun h=>by
    rw [List.length_drop] at h
    have:=JB.out.2.1
    have:=NN.out.1
    omega)
   go_upto_region 6 with fail
   go_quiet (fail)
   rename_i nq _
   go_upto_region 8 with fail
   have KQ:Hid (Below wx.heap.size wx (wr.drewN nq)):=Bm.below_drewN KX.out
   clear KX
   generalize wr.drewN nq=wq at KQ |-
   have EQ:Hid (Lc++((A.drop d).take t++(y1,y2,y3)::mrg ((A.drop d).drop t) (B.drop (i+1)))=RES):=by
    have q:=ED.out
    rw [MS.out] at q;exact q
   have LM:Hid (Lc.length+((A.drop d).take t).length+1<=1000000):=by
    have h1:=HR.out
    rw [<- EQ.out,List.length_append,List.length_append,List.length_cons] at h1
    show _<=_
    omega
   have JZ:Hid (QU W (fun g=>g=q) wx wq u5 Lc):=(JB.out.2.2.1.turn (fun g hg=>by rw [hg];exact ⟨JB.out.2.2.2.2.lt,JB.out.2.2.2.1⟩)).below KQ.out
   have bt:t<=c1:=by omega
   clear MS LX OC
   refine wp_region_noPanic ?_
   refine wp_region_held_drew (S:=fun cw=>Blk cw q [.int .i64 y1,.int .i64 y2,.int .i64 y3] 26) (by kernel_rfl) ?_ (fun hHeld=> ?_)
   . exact JB.out.2.2.2.2.below (Bm.below_drewN (m:=1) KQ.out)
   have J8:Hid (QU W (fun g=>g=q) wx wq.drew u5 Lc):=JZ.out.below (Bm.below_drewN (m:=1) (Below.refl _ _))
   clear KQ JZ
   generalize wq.drew=U8 at hHeld J8 |-
   refine tk 0 36 ?_ rfl (Or.inl ⟨by rfl,?_⟩) ?_
   rotate_left
   . intro w hSw;(try dsimp only at hSw);go_simp;(try with_reducible rfl)
   try simp only [Act.put,List.setIfInBounds_toArray,List.set_cons_zero,List.set_cons_succ]
   refine tk 1 37 ?_ rfl (Or.inl ⟨by rfl,?_⟩) ?_
   rotate_left
   . intro w hSw;(try dsimp only at hSw);go_simp;(try with_reducible rfl)
   try simp only [Act.put,List.setIfInBounds_toArray,List.set_cons_zero,List.set_cons_succ]
   refine tk 2 38 ?_ rfl (Or.inl ⟨by rfl,?_⟩) ?_
   rotate_left
   . intro w hSw;(try dsimp only at hSw);go_simp;(try with_reducible rfl)
   try simp only [Act.put,List.setIfInBounds_toArray,List.set_cons_zero,List.set_cons_succ]
   refine tk 3 39 ((.slice (some ⟨ga,o1,none⟩) t c1)) rfl (Or.inl ⟨by rfl,?_⟩) ?_
   . intro w hSw;(try dsimp only at hSw);go_simp;(try simp);(try (simp only [IntKind.wrap_i64];omega))
   try simp only [Act.put,List.setIfInBounds_toArray,List.set_cons_zero,List.set_cons_succ]
   refine tk 5 41 (.agg #[.int .i64 y1,.int .i64 y2,.int .i64 y3]) rfl (Or.inl ⟨by rfl,?_⟩) ?_
   . intro w hSw;(try dsimp only at hSw);have r0:=Blk.cell hSw 0;have r1:=Blk.cell hSw 1;have r2:=Blk.cell hSw 2;(try go_simp);(try simp [*])
   try simp only [Act.put,List.setIfInBounds_toArray,List.set_cons_zero,List.set_cons_succ]
   refine wpAnyH_ready (rs:=[4,6]) (by kernel_rfl) (by simp) ?_
   refine AllReadyH.cons (o:=⟨some 40,_,_,_,_,none⟩) rfl (fun Kc hK=> ?_) (AllReadyH.cons (o:=⟨some 42,_,_,_,_,none⟩) rfl (fun Kc hK=> ?_) AllReadyH.nil)
   . obtain ⟨p1,k1,e1,W1,r1,J1,_⟩:=LQ.appAll eU_len eU_one (by decide) Tryz.underlying22 infoU rfl (by decide) J8.out ((A.drop d).take t) ga o1 t c1 (by rw [List.length_take,List.length_drop];have:=JB.out.2.1;have:=NN.out.1;omega) (by have:=LM.out;omega) (fun i hi j hj=>by
      rw [List.length_take,List.length_drop] at hi
      obtain ⟨l,c⟩:=RA.out (d+i) (by omega)
      have e:=JB.out.1 (by have:=JB.out.2.1;have:=NN.out.1;omega)
      rw [show o1+i*3+j=oa+(d+i)*3+j by omega,List.getElem_take,List.getElem_drop]
      exact (World.cell?_of_block (w:=W) (a:=⟨ga,oa+(d+i)*3+j,none⟩) (J8.out.bel.block ga l)).trans (c j hj))
     refine wp_appR (.tmp 36) (.tmp 39) 22 rfl u5 (.slice (some ⟨ga,o1,none⟩) t c1) rfl rfl (.slice p1 k1 e1) W1 r1 ?_
     have J1:Hid _:=J1
     have hq:Blk W1 q [.int .i64 y1,.int .i64 y2,.int .i64 y3] 26:=((((J1.out).oth q (by first | rfl | exact Or.inl rfl)).2.1).trans JB.out.2.2.2.2)
     refine hK.out _ _ hq (fun hHeld2=> ?_)
     clear hq r1 J8
     clear hK Kc hHeld
     have hHeld:=hHeld2
     clear hHeld2
     try simp only [Act.put,List.setIfInBounds_toArray,List.set_cons_zero,List.set_cons_succ]
     refine wpAnyH_ready (rs:=[6]) (by kernel_rfl) (by simp) ?_
     refine AllReadyH.cons (o:=⟨some 42,_,_,_,_,none⟩) rfl (fun Kc hK=> ?_) AllReadyH.nil
     go_simp
     have gb:Below W1.heap.size W1 (W1.alloc (.cells #[.int .i64 y1,.int .i64 y2,.int .i64 y3] 26)):=Go.Joins.below_alloc1 _ _
     obtain ⟨p2,k2,e2,W2,r2,J2⟩:=LQ.app eU_len eU_one (by decide) Tryz.underlying22 infoU rfl (by decide) J1.out (by rw [List.length_append];have:=LM.out;omega) (y1,y2,y3)
     have J2:Hid _:=J2
     refine hK.out _ _ (hHeld.below gb) (fun hHeld2=> ?_)
     clear J1 gb
     clear hK Kc hHeld
     have hHeld:=hHeld2
     clear hHeld2
     try simp only [Act.put,List.setIfInBounds_toArray,List.set_cons_zero,List.set_cons_succ]
     simp only [eU] at r2
     refine wpAnyH_ready (rs:=[7]) (by kernel_rfl) (by simp) ?_
     refine AllReadyH.cons (o:=⟨some 43,_,_,_,_,none⟩) rfl (fun Kc hK=> ?_) AllReadyH.nil
     refine wp_appR (.tmp 40) (.tmp 42) 22 rfl (.slice p1 k1 e1) (.slice (some ⟨W1.heap.size,0,none⟩) 1 1) rfl rfl (.slice p2 k2 e2) W2 r2 ?_
     have hq:Blk W2 q [.int .i64 y1,.int .i64 y2,.int .i64 y3] 26:=((((J2.out).oth q (by first | rfl | exact Or.inl rfl)).2.1).trans JB.out.2.2.2.2)
     refine hK.out _ _ hq (fun hHeld2=> ?_)
     clear hq r2
     clear hK Kc hHeld
     have hHeld:=hHeld2
     clear hHeld2
     try simp only [Act.put,List.setIfInBounds_toArray,List.set_cons_zero,List.set_cons_succ]
     refine tk 8 5 ?_ rfl (Or.inl ⟨by rfl,?_⟩) ?_
     rotate_left
     . intro w hSw;(try dsimp only at hSw);go_simp;(try with_reducible rfl)
     try simp only [Act.put,List.setIfInBounds_toArray,List.set_cons_zero,List.set_cons_succ]
     clear hHeld
     refine wpAnyH_done (by kernel_rfl) ?_ _
     refine NoPanic.normal ?_
     have FIN:Hid ((n1-t)+(d+t)=nA/\n1-t<=c1-t/\QU W (fun _=>False) W2 W2 (.slice p2 k2 e2) (Lc++(A.drop d).take t++[(y1,y2,y3)])/\(Lc++(A.drop d).take t++[(y1,y2,y3)])++mrg (A.drop (d+t)) (B.drop (i+1))=RES):=by
      have e2:=JB.out.2.1
      refine ⟨by omega,by omega,(J2.out).turn (fun g hg=>hg.elim),?_⟩
      have q:=EQ.out
      rw [List.drop_drop] at q
      rw [<- q];simp
     clear J2
     go_wp2_with fail
     go_roundw
     case rel =>
      by_cases hc:c1=t
      . exact ⟨d+t,n1-t,c1-t,o1,i+1,_,by omega,by go_num,by rw [if_pos hc],by omega,by omega,fun h=>by omega,FIN.out⟩
      . exact ⟨d+t,n1-t,c1-t,o1+t*3,i+1,_,by omega,by go_num,by rw [if_neg hc],by omega,by omega,fun h=>by have:=JB.out.1 (by omega);omega,FIN.out⟩
     case measure=>simp only [Go.RowKit.intOf];omega
   . go_simp
     have gb:Below U8.heap.size U8 (U8.alloc (.cells #[.int .i64 y1,.int .i64 y2,.int .i64 y3] 26)):=Go.Joins.below_alloc1 _ _
     have BN:Hid (Blk (U8.alloc (.cells #[.int .i64 y1,.int .i64 y2,.int .i64 y3] 26)) U8.heap.size [.int .i64 y1,.int .i64 y2,.int .i64 y3] 26):=Blk.made _ _ _
     have J9:Hid (QU W (fun g=>g=q\/(U8.heap.size<=g/\g<(U8.alloc (.cells #[.int .i64 y1,.int .i64 y2,.int .i64 y3] 26)).heap.size)) (U8.alloc (.cells #[.int .i64 y1,.int .i64 y2,.int .i64 y3] 26)) (U8.alloc (.cells #[.int .i64 y1,.int .i64 y2,.int .i64 y3] 26)) u5 Lc/\Blk (U8.alloc (.cells #[.int .i64 y1,.int .i64 y2,.int .i64 y3] 26)) q [.int .i64 y1,.int .i64 y2,.int .i64 y3] 26):=⟨J8.out.more gb,hHeld.below gb⟩
     refine hK.out _ _ (hHeld.below gb) (fun hHeld2=> ?_)
     clear gb J8
     clear hK Kc hHeld
     have hHeld:=hHeld2
     clear hHeld2
     try simp only [Act.put,List.setIfInBounds_toArray,List.set_cons_zero,List.set_cons_succ]
     have szn:(U8.alloc (.cells #[.int .i64 y1,.int .i64 y2,.int .i64 y3] 26)).heap.size=U8.heap.size+1:=World.size_alloc _ _
     rw [szn] at J9
     clear szn
     generalize (U8.alloc (.cells #[.int .i64 y1,.int .i64 y2,.int .i64 y3] 26))=U9 at hHeld BN J9 |-
     generalize U8.heap.size=q8 at BN J9 |-
     refine wpAnyH_ready (rs:=[4]) (by kernel_rfl) (by simp) ?_
     refine AllReadyH.cons (o:=⟨some 40,_,_,_,_,none⟩) rfl (fun Kc hK=> ?_) AllReadyH.nil
     obtain ⟨p1,k1,e1,W1,r1,J1,_⟩:=LQ.appAll eU_len eU_one (by decide) Tryz.underlying22 infoU rfl (by decide) J9.out.1 ((A.drop d).take t) ga o1 t c1 (by rw [List.length_take,List.length_drop];have:=JB.out.2.1;have:=NN.out.1;omega) (by have:=LM.out;omega) (fun i hi j hj=>by
      rw [List.length_take,List.length_drop] at hi
      obtain ⟨l,c⟩:=RA.out (d+i) (by omega)
      have e:=JB.out.1 (by have:=JB.out.2.1;have:=NN.out.1;omega)
      rw [show o1+i*3+j=oa+(d+i)*3+j by omega,List.getElem_take,List.getElem_drop]
      exact (World.cell?_of_block (w:=W) (a:=⟨ga,oa+(d+i)*3+j,none⟩) (J9.out.1.bel.block ga l)).trans (c j hj))
     refine wp_appR (.tmp 36) (.tmp 39) 22 rfl u5 (.slice (some ⟨ga,o1,none⟩) t c1) rfl rfl (.slice p1 k1 e1) W1 r1 ?_
     have J1:Hid _:=J1
     have hq:Blk W1 q [.int .i64 y1,.int .i64 y2,.int .i64 y3] 26:=(((J1.out).oth q (Or.inl rfl)).2.1).trans J9.out.2
     refine hK.out _ _ hq (fun hHeld2=> ?_)
     clear hq r1
     clear hK Kc hHeld
     have hHeld:=hHeld2
     clear hHeld2
     try simp only [Act.put,List.setIfInBounds_toArray,List.set_cons_zero,List.set_cons_succ]
     refine wpAnyH_ready (rs:=[7]) (by kernel_rfl) (by simp) ?_
     refine AllReadyH.cons (o:=⟨some 43,_,_,_,_,none⟩) rfl (fun Kc hK=> ?_) AllReadyH.nil
     obtain ⟨p2,k2,e2,W2,r2,J2,_⟩:=LQ.appAll eU_len eU_one (by decide) Tryz.underlying22 infoU rfl (by decide) J1.out [(y1,y2,y3)] q8 0 1 1 rfl (by rw [List.length_append,List.length_singleton];have:=LM.out;omega) (fun i hi j hj=>by
      have i0:i=0:=by simp at hi;omega
      subst i0
      rw [show 0+0*3+j=j by omega]
      have hb:Blk W1 q8 [.int .i64 y1,.int .i64 y2,.int .i64 y3] 26:=((J1.out.oth q8 (Or.inr ⟨by omega,by omega⟩)).2.1).trans BN.out
      exact hb.cell j)
     refine wp_appR (.tmp 40) (.tmp 42) 22 rfl (.slice p1 k1 e1) (.slice (some ⟨q8,0,none⟩) 1 1) rfl rfl (.slice p2 k2 e2) W2 r2 ?_
     have J2:Hid _:=J2
     have hq:Blk W2 q [.int .i64 y1,.int .i64 y2,.int .i64 y3] 26:=(((J2.out).oth q (Or.inl rfl)).2.1).trans J9.out.2
     refine hK.out _ _ hq (fun hHeld2=> ?_)
     clear hq r2 J1
     clear hK Kc hHeld
     have hHeld:=hHeld2
     clear hHeld2
     try simp only [Act.put,List.setIfInBounds_toArray,List.set_cons_zero,List.set_cons_succ]
     refine tk 8 5 ?_ rfl (Or.inl ⟨by rfl,?_⟩) ?_
     rotate_left
     . intro w hSw;(try dsimp only at hSw);go_simp;(try with_reducible rfl)
     try simp only [Act.put,List.setIfInBounds_toArray,List.set_cons_zero,List.set_cons_succ]
     clear hHeld
     refine wpAnyH_done (by kernel_rfl) ?_ _
     refine NoPanic.normal ?_
     clear J9 BN
     have FIN:Hid ((n1-t)+(d+t)=nA/\n1-t<=c1-t/\QU W (fun _=>False) W2 W2 (.slice p2 k2 e2) (Lc++(A.drop d).take t++[(y1,y2,y3)])/\(Lc++(A.drop d).take t++[(y1,y2,y3)])++mrg (A.drop (d+t)) (B.drop (i+1))=RES):=by
      have e2:=JB.out.2.1
      refine ⟨by omega,by omega,(J2.out).turn (fun g hg=>hg.elim),?_⟩
      have q:=EQ.out
      rw [List.drop_drop] at q
      rw [<- q];simp
     clear J2
     go_wp2_with fail
     go_roundw
     case rel =>
      by_cases hc:c1=t
      . exact ⟨d+t,n1-t,c1-t,o1,i+1,_,by omega,by go_num,by rw [if_pos hc],by omega,by omega,fun h=>by omega,FIN.out⟩
      . exact ⟨d+t,n1-t,c1-t,o1+t*3,i+1,_,by omega,by go_num,by rw [if_neg hc],by omega,by omega,fun h=>by have:=JB.out.1 (by omega);omega,FIN.out⟩
     case measure=>simp only [Go.RowKit.intOf];omega
end Go.Proofs.YtajfbieacfjhnaaGreatDoor.Au
namespace Go.Proofs.YtajfbieacfjhnaaGreatDoor.Au
open Go.ChangeShapes Go.WideShapes Go.ChangeAt Go.RowKit Go.Maps
open Go.Proofs.YtajfbieacfjhnaaGreatDoor.Tt
set_option linter.unusedSimpArgs false
set_option linter.unusedVariables false
set_option maxRecDepth 8000
theorem kc_take (k:Int) {L:List Us} {i:Nat} (hi:i<L.length):kc k (L.take (i+1))=kc k (L.take i)+(if L[i].2.1 % 4=k then 1 else 0):=by
 rw [List.take_succ_eq_append_getElem hi,kc_app,kc_one]
theorem rem4 (x:Int): ∃ y,x.tmod 4=y/\ -4<y/\y<4/\(y+4).tmod 4=x % 4:=by
 have e:x.tmod 4=x % 4\/x.tmod 4=x % 4-4/\x % 4≠0:=by
  have h2:= @Int.tmod_eq_emod x 4
  by_cases c:0<=x\/(4:Int)∣x
  . rw [if_pos c] at h2;left;omega
  . rw [if_neg c] at h2
    right
    refine ⟨by simpa using h2,fun h=>c (Or.inr (Int.dvd_of_emod_eq_zero h))⟩
 refine ⟨x.tmod 4,rfl,by omega,by omega,?_⟩
 rw [Int.tmod_eq_emod_of_nonneg (by omega)]
 omega
set_option maxHeartbeats 4000000 in
theorem count_form (lo:Nat) (p:Option Addr) (n c:Nat) (L:List Us) (hn:n=L.length) (hL:L.length<=1000000) (w:World) (rd: ∀ i (hi:i<L.length),∃ g o,p=some ⟨g,o,none⟩/\lo<=g/\g<w.heap.size/\ ∀ j,j<3->w.cell? ⟨g,o+i*3+j,none⟩=(eU L[i])[j]?) :
 Calls Tryz.prog 5 #[.slice p n c] w fun e w'=>e=.returned (.agg #[.int .i64 (kc 0 L:Nat),.int .i64 (kc 1 L:Nat),.int .i64 (kc 2 L:Nat),.int .i64 (kc 3 L:Nat)])/\Below w.heap.size w w':=by
 have RD:Hid (∀ i (hi:i<L.length),∃ g o,p=some ⟨g,o,none⟩/\lo<=g/\g<w.heap.size/\ ∀ j,j<3->w.cell? ⟨g,o+i*3+j,none⟩=(eU L[i])[j]?):=rd
 rw [<- hn] at hL
 have HN:Hid (n=L.length):=hn
 obtain ⟨E0,h0⟩: ∃ E:Int,E=(kc 0 L:Nat):=⟨_,rfl⟩
 obtain ⟨E1,h1⟩: ∃ E:Int,E=(kc 1 L:Nat):=⟨_,rfl⟩
 obtain ⟨E2,h2⟩: ∃ E:Int,E=(kc 2 L:Nat):=⟨_,rfl⟩
 obtain ⟨E3,h3⟩: ∃ E:Int,E=(kc 3 L:Nat):=⟨_,rfl⟩
 have HE:Hid (E0=(kc 0 L:Nat)/\E1=(kc 1 L:Nat)/\E2=(kc 2 L:Nat)/\E3=(kc 3 L:Nat)):=⟨h0,h1,h2,h3⟩
 rw [<- h0,<- h1,<- h2,<- h3]
 obtain ⟨q,hq⟩: ∃ q,q=w.heap.size:=⟨_,rfl⟩
 have Z1:Hid (Blk ((w.alloc (.cells #[.int .i64 0,.int .i64 0,.int .i64 0,.int .i64 0] 23)).alloc (.cells #[.int .i64 0,.int .i64 0,.int .i64 0,.int .i64 0] 23)) q [.int .i64 0,.int .i64 0,.int .i64 0,.int .i64 0] 23/\Blk ((w.alloc (.cells #[.int .i64 0,.int .i64 0,.int .i64 0,.int .i64 0] 23)).alloc (.cells #[.int .i64 0,.int .i64 0,.int .i64 0,.int .i64 0] 23)) (q+1) [.int .i64 0,.int .i64 0,.int .i64 0,.int .i64 0] 23/\Below w.heap.size w ((w.alloc (.cells #[.int .i64 0,.int .i64 0,.int .i64 0,.int .i64 0] 23)).alloc (.cells #[.int .i64 0,.int .i64 0,.int .i64 0,.int .i64 0] 23))/\q=w.heap.size):=by
  refine ⟨by rw [hq];exact (Blk.made w _ _).below (Go.Joins.below_alloc1 _ _),?_,Go.Joins.below_alloc2 _ _ _,hq⟩
  have r:=Blk.made (w.alloc (.cells #[.int .i64 0,.int .i64 0,.int .i64 0,.int .i64 0] 23)) [.int .i64 0,.int .i64 0,.int .i64 0,.int .i64 0] 23
  rw [World.size_alloc,<- hq] at r;exact r
 clear rd hn h0 h1 h2 h3
 go_enter Tryz.func5,Tryz.ntmps5
 go_upto_region 2 with fail
 rw [<- hq]
 generalize ((w.alloc (.cells #[.int .i64 0,.int .i64 0,.int .i64 0,.int .i64 0] 23)).alloc (.cells #[.int .i64 0,.int .i64 0,.int .i64 0,.int .i64 0] 23))=w1 at Z1 |-
 clear hq
 go_wp2_with fail
 go_loopw [8] (fun ii V=> ∃ (i:Nat) (c0 c1 c2 c3:Int),i<=n/\ii=.int .i64 i/\Hid (Blk V (q+1) [.int .i64 c0,.int .i64 c1,.int .i64 c2,.int .i64 c3] 23/\Blk V q [.int .i64 0,.int .i64 0,.int .i64 0,.int .i64 0] 23/\Below w.heap.size w V)/\Hid (c0=(kc 0 (L.take i):Nat)/\c1=(kc 1 (L.take i):Nat)/\c2=(kc 2 (L.take i):Nat)/\c3=(kc 3 (L.take i):Nat))) (fun ii _=>n-(Go.RowKit.intOf ii).toNat)
 case atStart=>exact ⟨0,0,0,0,0,by omega,rfl,⟨Z1.out.2.1,Z1.out.1,Z1.out.2.2.1⟩,rfl,rfl,rfl,rfl⟩
 case round =>
  obtain ⟨i,c0,c1,c2,c3,hin,rfl,JB,JC⟩:=hrel
  by_cases ci:i<n
  rotate_left
  . have d1:decide ((i:Int)<(n:Int))=false:=by simp;omega
    have FE:Hid (c0=E0/\c1=E1/\c2=E2/\c3=E3):=by
     have e:i=L.length:=by have:=HN.out;omega
     have q:=JC.out
     rw [e,List.take_length] at q
     exact ⟨q.1.trans HE.out.1.symm,q.2.1.trans HE.out.2.1.symm,q.2.2.1.trans HE.out.2.2.1.symm,q.2.2.2.trans HE.out.2.2.2.symm⟩
    obtain ⟨rfl,rfl,rfl,rfl⟩:=FE.out
    have s0:=Bm.Blk.cell JB.out.1 0
    have s1:=Bm.Blk.cell JB.out.1 1
    have s2:=Bm.Blk.cell JB.out.1 2
    have s3:=Bm.Blk.cell JB.out.1 3
    have TH:Hid (wr.there q 0 4):=Bm.Blk.there JB.out.2.1
    have F1:Hid (Blk (wr.setCells q 0 [.int .i64 c0,.int .i64 c1,.int .i64 c2,.int .i64 c3]) q [.int .i64 c0,.int .i64 c1,.int .i64 c2,.int .i64 c3] 23/\Below w.heap.size w (wr.setCells q 0 [.int .i64 c0,.int .i64 c1,.int .i64 c2,.int .i64 c3])):=by
     have gk:=Qu.grown_setCells q [.int .i64 c0,.int .i64 c1,.int .i64 c2,.int .i64 c3] 0 wr
     refine ⟨?_,?_⟩
     . have r:=((((Bm.Blk.set JB.out.2.1 0 (.int .i64 c0)).set 1 (.int .i64 c1)).set 2 (.int .i64 c2)).set 3 (.int .i64 c3))
       exact r
     . have l:=Z1.out.2.2.2
       exact JB.out.2.2.grown gk JB.out.2.2.size (fun j e=>by have:=Option.some.inj e;omega)
    clear JB JC HE FE Z1
    go_wp2_with (refine store_pat q 0 #[.int .i64 c0,.int .i64 c1,.int .i64 c2,.int .i64 c3] ?hx ?hy ?ht ?hi ?h1 ?rest;(case hx=>rfl);(case hy=>rfl);(case ht=>exact TH.out);(case hi=>kernel_rfl);(case h1=>simp [Value.oneCell']);(try simp only [List.toList_toArray]);generalize wr.setCells q 0 [.int .i64 c0,.int .i64 c1,.int .i64 c2,.int .i64 c3]=V at F1 |-)
    refine bodyPost_ret (v:=.agg #[.int .i64 c0,.int .i64 c1,.int .i64 c2,.int .i64 c3]) (results_one Tryz.results5 _ _ _ _ _ rfl (run_loadVar_mid (P:=Tryz.prog) _ q 0 23 [.int .i64 c0,.int .i64 c1,.int .i64 c2,.int .i64 c3] _ (Bm.Blk.range F1.out.1) Tryz.underlying23 rfl (by kernel_rfl))) rfl ?_
    exact ⟨rfl,F1.out.2⟩
  have d1:decide ((i:Int)<(n:Int))=true:=by simp;omega
  have iL:i<L.length:=by have:=HN.out;omega
  obtain ⟨g,og,rfl,l0,lg,rc⟩:=RD.out i iL
  have y0:wr.cell? ⟨g,og+i*3,none⟩=some (.int .i64 L[i].1):=(World.cell?_of_block (JB.out.2.2.block g lg)).trans (rc 0 (by omega))
  have y1:wr.cell? ⟨g,og+i*3+1,none⟩=some (.int .i64 L[i].2.1):=(World.cell?_of_block (JB.out.2.2.block g lg)).trans (rc 1 (by omega))
  have y2:wr.cell? ⟨g,og+i*3+2,none⟩=some (.int .i64 L[i].2.2):=(World.cell?_of_block (JB.out.2.2.block g lg)).trans (rc 2 (by omega))
  have lgr:g<wr.heap.size:=Nat.lt_of_lt_of_le lg JB.out.2.2.size
  have K0:=fun k=>kc_take k iL
  have LK:Hid (∀ k,kc k (L.take i)<=1000000):=fun k=>Nat.le_trans (kc_le _ _) (by rw [List.length_take];omega)
  obtain ⟨y,ry,yl,yu,rr⟩:=rem4 L[i].2.1
  have wy:IntKind.i64.wrap (y+4)=y+4:=by rw [IntKind.wrap_i64];omega
  have KE:Hid (∀ k,kc k (L.take (i+1))=kc k (L.take i)+if L[i].2.1 % 4=k then 1 else 0):=K0
  have m4:L[i].2.1 % 4=0\/L[i].2.1 % 4=1\/L[i].2.1 % 4=2\/L[i].2.1 % 4=3:=by omega
  generalize L[i]=x at y0 y1 y2 ry rr m4 KE
  obtain ⟨x1,x2,x3⟩:=x
  simp only at y0 y1 y2 ry rr m4
  clear K0 rc l0 lg
  have hb2:Below wr.heap.size wr (wr.alloc (.cells #[.int .i64 x1,.int .i64 x2,.int .i64 x3] 26)):=Go.Joins.below_alloc1 _ _
  have JX:Hid (Blk (wr.alloc (.cells #[.int .i64 x1,.int .i64 x2,.int .i64 x3] 26)) (q+1) [.int .i64 c0,.int .i64 c1,.int .i64 c2,.int .i64 c3] 23/\Blk (wr.alloc (.cells #[.int .i64 x1,.int .i64 x2,.int .i64 x3] 26)) q [.int .i64 0,.int .i64 0,.int .i64 0,.int .i64 0] 23/\Below w.heap.size w (wr.alloc (.cells #[.int .i64 x1,.int .i64 x2,.int .i64 x3] 26))/\Blk (wr.alloc (.cells #[.int .i64 x1,.int .i64 x2,.int .i64 x3] 26)) wr.heap.size [.int .i64 x1,.int .i64 x2,.int .i64 x3] 26):=⟨Bm.Blk.below JB.out.1 hb2,Bm.Blk.below JB.out.2.1 hb2,below_then JB.out.2.2 hb2,Blk.made _ _ _⟩
  clear hb2 JB
  go_upto_region 5 with fail
  clear y0 y1 y2 lgr
  generalize (wr.alloc (.cells #[.int .i64 x1,.int .i64 x2,.int .i64 x3] 26))=wx at JX |-
  generalize wr.heap.size=qx at JX |-
  have z1:wx.cell? ⟨qx,1,none⟩=some (.int .i64 x2):=Blk.cell JX.out.2.2.2 1
  have lq:Hid (q=w.heap.size):=Z1.out.2.2.2
  rcases m4 with m | m | m | m
  . have e4:(y+4).tmod 4=0:=rr.trans m
    have s0:wx.cell? ⟨q+1,0,none⟩=some (.int .i64 c0):=Bm.Blk.cell JX.out.1 0
    have f0:wx.frozen? ⟨q+1,0,none⟩=false:=Bm.Blk.free JX.out.1 0
    have wc:IntKind.i64.wrap (c0+1)=c0+1:=by rw [IntKind.wrap_i64];have:=JC.out;have:=LK.out 0;omega
    have N1:Hid ((Blk (wx.setCell ⟨q+1,0,none⟩ (.int .i64 (c0+1))) (q+1) [.int .i64 (c0+1),.int .i64 c1,.int .i64 c2,.int .i64 c3] 23/\Blk (wx.setCell ⟨q+1,0,none⟩ (.int .i64 (c0+1))) q [.int .i64 0,.int .i64 0,.int .i64 0,.int .i64 0] 23/\Below w.heap.size w (wx.setCell ⟨q+1,0,none⟩ (.int .i64 (c0+1))))):=⟨Bm.Blk.set JX.out.1 0 _,Bm.Blk.far JX.out.2.1 _ _ (by omega),JX.out.2.2.1.setCell (p:=⟨q+1,0,none⟩) (by have:=lq.out;show w.heap.size<=q+1;omega) _⟩
    have N2:Hid (_/\_/\_/\_):=(⟨by rw [KE.out 0];have:=JC.out.1;simp [m];omega,by rw [KE.out 1];have:=JC.out.2.1;simp [m];omega,by rw [KE.out 2];have:=JC.out.2.2.1;simp [m];omega,by rw [KE.out 3];have:=JC.out.2.2.2;simp [m];omega⟩:(c0+1=(kc 0 (L.take (i+1)):Nat)/\c1=(kc 1 (L.take (i+1)):Nat)/\c2=(kc 2 (L.take (i+1)):Nat)/\c3=(kc 3 (L.take (i+1)):Nat)))
    clear JX JC KE rr m
    go_wp2_with fail
    go_roundw
    case rel=>exact ⟨i+1,c0+1,c1,c2,c3,by omega,by go_num,N1,N2⟩
    case measure=>simp only [Go.RowKit.intOf];omega
  . have e4:(y+4).tmod 4=1:=rr.trans m
    have s1:wx.cell? ⟨q+1,1,none⟩=some (.int .i64 c1):=Bm.Blk.cell JX.out.1 1
    have f1:wx.frozen? ⟨q+1,1,none⟩=false:=Bm.Blk.free JX.out.1 1
    have wc:IntKind.i64.wrap (c1+1)=c1+1:=by rw [IntKind.wrap_i64];have:=JC.out;have:=LK.out 1;omega
    have N1:Hid ((Blk (wx.setCell ⟨q+1,1,none⟩ (.int .i64 (c1+1))) (q+1) [.int .i64 c0,.int .i64 (c1+1),.int .i64 c2,.int .i64 c3] 23/\Blk (wx.setCell ⟨q+1,1,none⟩ (.int .i64 (c1+1))) q [.int .i64 0,.int .i64 0,.int .i64 0,.int .i64 0] 23/\Below w.heap.size w (wx.setCell ⟨q+1,1,none⟩ (.int .i64 (c1+1))))):=⟨Bm.Blk.set JX.out.1 1 _,Bm.Blk.far JX.out.2.1 _ _ (by omega),JX.out.2.2.1.setCell (p:=⟨q+1,1,none⟩) (by have:=lq.out;show w.heap.size<=q+1;omega) _⟩
    have N2:Hid (_/\_/\_/\_):=(⟨by rw [KE.out 0];have:=JC.out.1;simp [m];omega,by rw [KE.out 1];have:=JC.out.2.1;simp [m];omega,by rw [KE.out 2];have:=JC.out.2.2.1;simp [m];omega,by rw [KE.out 3];have:=JC.out.2.2.2;simp [m];omega⟩:(c0=(kc 0 (L.take (i+1)):Nat)/\c1+1=(kc 1 (L.take (i+1)):Nat)/\c2=(kc 2 (L.take (i+1)):Nat)/\c3=(kc 3 (L.take (i+1)):Nat)))
    clear JX JC KE rr m
    go_wp2_with fail
    go_roundw
    case rel=>exact ⟨i+1,c0,c1+1,c2,c3,by omega,by go_num,N1,N2⟩
    case measure=>simp only [Go.RowKit.intOf];omega
  . have e4:(y+4).tmod 4=2:=rr.trans m
    have s2:wx.cell? ⟨q+1,2,none⟩=some (.int .i64 c2):=Bm.Blk.cell JX.out.1 2
    have f2:wx.frozen? ⟨q+1,2,none⟩=false:=Bm.Blk.free JX.out.1 2
    have wc:IntKind.i64.wrap (c2+1)=c2+1:=by rw [IntKind.wrap_i64];have:=JC.out;have:=LK.out 2;omega
    have N1:Hid ((Blk (wx.setCell ⟨q+1,2,none⟩ (.int .i64 (c2+1))) (q+1) [.int .i64 c0,.int .i64 c1,.int .i64 (c2+1),.int .i64 c3] 23/\Blk (wx.setCell ⟨q+1,2,none⟩ (.int .i64 (c2+1))) q [.int .i64 0,.int .i64 0,.int .i64 0,.int .i64 0] 23/\Below w.heap.size w (wx.setCell ⟨q+1,2,none⟩ (.int .i64 (c2+1))))):=⟨Bm.Blk.set JX.out.1 2 _,Bm.Blk.far JX.out.2.1 _ _ (by omega),JX.out.2.2.1.setCell (p:=⟨q+1,2,none⟩) (by have:=lq.out;show w.heap.size<=q+1;omega) _⟩
    have N2:Hid (_/\_/\_/\_):=(⟨by rw [KE.out 0];have:=JC.out.1;simp [m];omega,by rw [KE.out 1];have:=JC.out.2.1;simp [m];omega,by rw [KE.out 2];have:=JC.out.2.2.1;simp [m];omega,by rw [KE.out 3];have:=JC.out.2.2.2;simp [m];omega⟩:(c0=(kc 0 (L.take (i+1)):Nat)/\c1=(kc 1 (L.take (i+1)):Nat)/\c2+1=(kc 2 (L.take (i+1)):Nat)/\c3=(kc 3 (L.take (i+1)):Nat)))
    clear JX JC KE rr m
    go_wp2_with fail
    go_roundw
    case rel=>exact ⟨i+1,c0,c1,c2+1,c3,by omega,by go_num,N1,N2⟩
    case measure=>simp only [Go.RowKit.intOf];omega
  . have e4:(y+4).tmod 4=3:=rr.trans m
    have s3:wx.cell? ⟨q+1,3,none⟩=some (.int .i64 c3):=Bm.Blk.cell JX.out.1 3
    have f3:wx.frozen? ⟨q+1,3,none⟩=false:=Bm.Blk.free JX.out.1 3
    have wc:IntKind.i64.wrap (c3+1)=c3+1:=by rw [IntKind.wrap_i64];have:=JC.out;have:=LK.out 3;omega
    have N1:Hid ((Blk (wx.setCell ⟨q+1,3,none⟩ (.int .i64 (c3+1))) (q+1) [.int .i64 c0,.int .i64 c1,.int .i64 c2,.int .i64 (c3+1)] 23/\Blk (wx.setCell ⟨q+1,3,none⟩ (.int .i64 (c3+1))) q [.int .i64 0,.int .i64 0,.int .i64 0,.int .i64 0] 23/\Below w.heap.size w (wx.setCell ⟨q+1,3,none⟩ (.int .i64 (c3+1))))):=⟨Bm.Blk.set JX.out.1 3 _,Bm.Blk.far JX.out.2.1 _ _ (by omega),JX.out.2.2.1.setCell (p:=⟨q+1,3,none⟩) (by have:=lq.out;show w.heap.size<=q+1;omega) _⟩
    have N2:Hid (_/\_/\_/\_):=(⟨by rw [KE.out 0];have:=JC.out.1;simp [m];omega,by rw [KE.out 1];have:=JC.out.2.1;simp [m];omega,by rw [KE.out 2];have:=JC.out.2.2.1;simp [m];omega,by rw [KE.out 3];have:=JC.out.2.2.2;simp [m];omega⟩:(c0=(kc 0 (L.take (i+1)):Nat)/\c1=(kc 1 (L.take (i+1)):Nat)/\c2=(kc 2 (L.take (i+1)):Nat)/\c3+1=(kc 3 (L.take (i+1)):Nat)))
    clear JX JC KE rr m
    go_wp2_with fail
    go_roundw
    case rel=>exact ⟨i+1,c0,c1,c2,c3+1,by omega,by go_num,N1,N2⟩
    case measure=>simp only [Go.RowKit.intOf];omega
theorem count_any (lo:Nat) (v:Value) (L:List Us) (hL:L.length<=1000000) (w:World) (H:UL w lo v L) :
 Calls Tryz.prog 5 #[v] w fun e w'=>e=.returned (.agg #[.int .i64 (kc 0 L:Nat),.int .i64 (kc 1 L:Nat),.int .i64 (kc 2 L:Nat),.int .i64 (kc 3 L:Nat)])/\Below w.heap.size w w':=by
 obtain ⟨p,c,hv,hc,_,rd⟩:=H.form
 rw [hv]
 exact count_form lo p _ c L rfl hL w rd
set_option maxHeartbeats 2000000 in
theorem twice_any (lo:Nat) (v:Value) (L:List Us) (hL:L.length<=1000000) (hU:Up L) (w:World) (H:UL w lo v L) :
 Calls Tryz.prog 24 #[v] w fun e w'=>e=.returned (.bool false)/\Below w.heap.size w w':=by
 obtain ⟨p,c,hv,hc,_,rd⟩:=H.form
 have RD:Hid (∀ i (hi:i<L.length),∃ g o,p=some ⟨g,o,none⟩/\lo<=g/\g<w.heap.size/\ ∀ j,j<3->w.cell? ⟨g,o+i*3+j,none⟩=(eU L[i])[j]?):=rd
 obtain ⟨n,hn⟩: ∃ n,n=L.length:=⟨_,rfl⟩
 rw [<- hn] at hv hL
 subst hv
 have HN:Hid (n=L.length):=hn
 have HU:Hid (Up L):=hU
 clear hc rd hn hU H
 go_enter Tryz.func24,Tryz.ntmps24
 go_wp2_with fail
 go_loopw [3] (fun ii V=> ∃ k:Nat,ii=.int .i64 ((k:Int)+1)/\k<=n/\Hid (Below w.heap.size w V)) (fun ii _=>n+1-(Go.RowKit.intOf ii).toNat)
 case atStart=>exact ⟨0,by simp,by omega,Below.refl _ _⟩
 case round =>
  obtain ⟨k,rfl,hk,JB⟩:=hrel
  by_cases ck:k+1<n
  rotate_left
  . have d1:decide ((k:Int)+1<(n:Int))=false:=by simp;omega
    go_wp2_with fail
    go_returns
    exact ⟨rfl,JB.out⟩
  have d1:decide ((k:Int)+1<(n:Int))=true:=by simp;omega
  have h1:k<L.length:=by have:=HN.out;omega
  have h2:k+1<L.length:=by have:=HN.out;omega
  have ne:L[k].1<L[k+1].1:=List.pairwise_iff_getElem.1 HU.out k (k+1) h1 h2 (by omega)
  obtain ⟨g,og,ep,l0,lg,ra⟩:=RD.out k h1
  obtain ⟨g',og',ep',_,_,rb⟩:=RD.out (k+1) h2
  have eg:g'=g/\og'=og:=by rw [ep] at ep';cases ep';exact ⟨rfl,rfl⟩
  obtain ⟨rfl,rfl⟩:=eg
  subst ep
  have y0:wr.cell? ⟨g',og'+k*3,none⟩=some (.int .i64 L[k].1):=(World.cell?_of_block (JB.out.block g' lg)).trans (ra 0 (by omega))
  have y1:wr.cell? ⟨g',og'+(k+1)*3,none⟩=some (.int .i64 L[k+1].1):=(World.cell?_of_block (JB.out.block g' lg)).trans (rb 0 (by omega))
  have lgr:g'<wr.heap.size:=Nat.lt_of_lt_of_le lg JB.out.size
  generalize L[k].1=x at y0 ne
  generalize L[k+1].1=y at y1 ne
  have d2:(y==x)=false:=by simp;omega
  have d3:decide (y=x)=false:=by simp;omega
  have w1:IntKind.i64.wrap ((k:Int)+1-1)=k:=by rw [IntKind.wrap_i64];omega
  have t1:((k:Int)+1).toNat=k+1:=by omega
  have JN:Hid (∀ m,Below w.heap.size w (wr.drewN m)):=fun m=>Bm.below_drewN JB.out
  clear ra rb l0 lg ep' ne
  go_upto_region 4 with fail
  go_quiet (fail)
  rename_i nq _
  have w2:IntKind.i64.wrap ((k:Int)+1+1)=((k+1:Nat):Int)+1:=by rw [IntKind.wrap_i64];omega
  go_wp2_with fail
  go_roundw
  case rel=>exact ⟨k+1,congrArg (Value.int .i64) (by omega),by omega,JN.out nq⟩
  case measure=>simp only [Go.RowKit.intOf];omega
set_option maxHeartbeats 2000000 in
theorem given_any {Z:Nat->Prop} {W:World} {b:Nat} {F:Nat->Prop} {G:Int->Option Int} (h:Bd.Bu Z W b 1000000 F G) (hG: ∀ x,(G x).isSome=true->G x=some 0/\0<=x/\x<1000000) :
 Calls Tryz.prog 25 #[pp b] W fun e w'=>e=.returned (.int .i64 (Bd.cnt (fun i:Nat=>(G i).isSome=true) 1048576:Nat))/\Below W.heap.size W w':=by
 have GC:Hid _:=h.given (by omega)
 have OC:Hid (∀ V x,Below W.heap.size W V->(G x).isSome=true->Calls Tryz.prog 69 #[pp b,.int .i64 x] V fun e w'=>e=.returned (.int .i64 0)/\w'=V):=fun V x hb hx=>by
  obtain ⟨g1,g2,g3⟩:=hG x hx
  have q:=(h.below hb).order (x:=x) (Bm.wf64 (by omega) (by omega))
  rw [g1] at q
  exact q
 have BD:Hid (Bd.Bnd fun i:Nat=>(G i).isSome=true):=fun i hi=>by have:=(hG i hi).2.2;omega
 have HG:Hid (∀ x,(G x).isSome=true->0<=x):=fun x hx=>(hG x hx).2.1
 obtain ⟨N,hN⟩: ∃ N,N=Bd.cnt (fun i:Nat=>(G i).isSome=true) 1048576:=⟨_,rfl⟩
 have HN:Hid (N=Bd.cnt (fun i:Nat=>(G i).isSome=true) 1048576/\N<=1048576):=⟨hN,by rw [hN];exact Bd.cnt_le _ _⟩
 rw [<- hN]
 clear h hG hN
 go_enter Tryz.func25,Tryz.ntmps25
 go_wp2_with fail
 refine Calls.mono GC.out ?_
 rintro e w1 ⟨v,L,rfl,ha,hm,hrow,hb⟩
 obtain ⟨p,c,hv,rd⟩:=ints_form hrow
 have eN:L.length=N:=by
  rw [HN.out.1]
  exact cnt_keys BD.out ha (fun x=>by
   rw [hm x]
   constructor
   . intro hx
     have:=HG.out x hx
     exact ⟨x.toNat,by omega,by rw [show ((x.toNat:Nat):Int)=x by omega];exact hx⟩
   . rintro ⟨j,rfl,hj⟩;exact hj)
 have HM:Hid (∀ x,x∈L↔(G x).isSome=true):=hm
 have RD:Hid (∀ i (hi:i<L.length),∃ g,p=some ⟨g,0,none⟩/\W.heap.size<=g/\g<w1.heap.size/\w1.cell? ⟨g,i,none⟩=some (.int .i64 L[i])):=rd
 have EN:Hid (L.length=N):=eN
 have B1:Hid (Below W.heap.size W w1):=hb
 have nb:N<=1048576:=HN.out.2
 rw [eN] at hv
 subst hv
 clear ha hm hrow hb rd eN GC
 go_wp2_with fail
 go_loopw [3,9] (fun fv ii V=> ∃ i:Nat,i<=N/\ii=.int .i64 i/\fv=.int .i64 i/\Hid (Below w1.heap.size w1 V)) (fun _ ii _=>N-(Go.RowKit.intOf ii).toNat)
 case atStart=>exact ⟨0,by omega,rfl,rfl,Below.refl _ _⟩
 case round =>
  obtain ⟨i,hi,rfl,rfl,JB⟩:=hrel
  by_cases ci:i<N
  rotate_left
  . have d1:decide ((i:Int)<(N:Int))=false:=by simp;omega
    have ei:i=N:=by omega
    subst ei
    go_wp2_with fail
    go_returns
    exact ⟨rfl,B1.out.trans (Go.Joins.below_le JB.out B1.out.size)⟩
  have d1:decide ((i:Int)<(N:Int))=true:=by simp;omega
  have iL:i<L.length:=by have:=EN.out;omega
  obtain ⟨g,rfl,l0,lg,rc⟩:=RD.out i iL
  have y0:wr.cell? ⟨g,i,none⟩=some (.int .i64 L[i]):=(World.cell?_of_block (JB.out.block g lg)).trans rc
  have lgr:g<wr.heap.size:=Nat.lt_of_lt_of_le lg JB.out.size
  have O1:Hid _:=OC.out wr L[i] (B1.out.trans (Go.Joins.below_le JB.out B1.out.size)) ((HM.out _).1 (List.getElem_mem iL))
  generalize L[i]=x at y0 O1
  have wi:IntKind.i64.wrap ((i:Int)+1)=((i+1:Nat):Int):=by rw [IntKind.wrap_i64];omega
  clear rc l0 lg
  go_wp2_with fail
  refine Calls.mono O1.out ?_
  rintro e w2 ⟨rfl,hu⟩
  have hu2:=hu.symm
  clear hu
  subst hu2
  clear O1 y0
  go_wp2_with fail
  go_roundw
  case rel=>exact ⟨i+1,by omega,by go_num,by go_num,JB⟩
  case measure=>simp only [Go.RowKit.intOf];omega
set_option maxHeartbeats 2000000 in
theorem charged_any (b:Nat) (T:Nat->Qu.Nd) (w:World) (h:Qu.IsTree w b T) (h0:(T 0).live=true) (hr: ∀ k,k≠0->(T k).live=false) (u0:0<=(T 0).used) (u1:(T 0).used<=1000000) :
 Calls Tryz.prog 26 #[pp b] w fun e w'=>e=.returned (.int .i64 (T 0).used)/\Below w.heap.size w w':=by
 have LL: ∀ k,1<=k->Qu.liveL T k=[0]:=by
  intro k
  induction k with
  | zero => intro h; omega
  | succ k ih =>
   intro _
   cases k with
   | zero => rw [Qu.live_yes T 0 h0]; rfl
   | succ k => rw [Qu.live_no T (k + 1) (hr _ (by omega))]; exact ih (by omega)
 have LC:Hid _:=Qu.live_any b T w h
 rw [LL 64 (by omega)] at LC
 have GC:Hid (∀ V,Below w.heap.size w V->Calls Tryz.prog 71 #[pp b,.int .i64 0] V fun e w'=>e=.returned (.tuple #[(T 0).val,.bool true])/\Below V.heap.size V w'):=fun V hb=>by
  have q:=Qu.get_any b T 0 V (h.below hb)
  have e0:Qu.getN T 0=T 0:=by unfold Qu.getN;rw [if_pos ⟨by omega,by omega⟩];rfl
  rw [e0,h0] at q
  exact q
 generalize T 0=N at GC u0 u1
 obtain ⟨n1,n2,n3,n4,n5⟩:=N
 simp only at u0 u1 GC
 have w3:IntKind.i64.wrap n3=n3:=by rw [IntKind.wrap_i64];omega
 clear h h0 hr LL
 go_enter Tryz.func26,Tryz.ntmps26
 go_wp2_with fail
 refine Calls.mono LC.out ?_
 rintro e w1 ⟨v,rfl,hrow,hb⟩
 obtain ⟨p,c,hv,rd⟩:=ints_form (L:=[0]) hrow
 obtain ⟨g,rfl,l0,lg,rc⟩:=rd 0 (by simp)
 simp only [List.length_singleton] at hv
 subst hv
 have c0:w1.cell? ⟨g,0,none⟩=some (.int .i64 0):=rc
 have B1:Hid (Below w.heap.size w w1):=hb
 clear hb rd hrow rc LC
 go_wp2_with fail
 refine wp_loop_rounds 2 ?_
 rw [rounds_succ]
 go_wp2_with fail
 refine Calls.mono (GC.out _ B1.out) ?_
 rintro e w2 ⟨rfl,hb2⟩
 have B2:Hid (Below w.heap.size w w2):=B1.out.trans (Go.Joins.below_le hb2 B1.out.size)
 clear hb2 GC c0
 go_wp2_with fail
 all_goals (try (rw [rounds_succ];go_wp2_with fail))
 go_returns
 exact ⟨rfl,below_new B2.out _⟩
end Go.Proofs.YtajfbieacfjhnaaGreatDoor.Au
