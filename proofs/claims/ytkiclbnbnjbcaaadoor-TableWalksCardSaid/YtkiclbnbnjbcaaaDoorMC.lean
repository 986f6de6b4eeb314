import Derived.Test.YtkiclbnbnjbcaaaDoorMB
namespace Go.Proofs.YtkiclbnbnjbcaaaDoor.Tt
open Go.ChangeShapes Go.WideShapes Go.ChangeAt Go.RowKit Go.Maps
set_option linter.unusedSimpArgs false
set_option linter.unusedVariables false
set_option maxRecDepth 8000
set_option maxHeartbeats 400000 in
theorem frames_c {X:Nat->Prop} {W:World} {m:Pm} {s:Ps} (h:Pu X W m s):Calls Tryd.prog 32 #[pp m.rb] W fun e w'=>e=.returned (.int .i64 m.F)/\w'=W:=by
 obtain ⟨mb,S,pg,q1,q2,hk,q3,q4,_⟩:=h.isRam
 have lr:=hk.2.1 _ hk.1
 clear hk q1 q2 q3 h
 go_enter Tryd.func32,Tryd.ntmps32
 go_wp2_with fail
 go_ret
 exact ⟨rfl,rfl⟩
theorem TI.q {X:Nat->Prop} {W0 w:World} {A k:Nat} {m:Pm} {st:Ps} {L:List Nat} {v:Value} (H:TI X W0 A m k st L v w) {q':Nat} (hq:st.q<=q'):TI X W0 A m k { st with q:=q' } L v w :=
 ⟨H.pu.q hq,H.box,H.own,H.kx,H.ne,H.pos,H.x0,H.xl⟩
def Wrote (X:Nat->Prop) (W:World) (m:Pm) (s:Ps) (k:Nat) (L:List Nat) (w':World):Prop :=
 ∃ M':Int->Int,Pu X w' m { takeS s k L with M:=M',q:=s.q+5000 }/\Kx X W w'/\ ∀ f:Nat,f∉L-> ∀ j:Nat,j<512->En M' f j=En s.M f j
set_option maxHeartbeats 2000000 in
theorem kernel_no {X:Nat->Prop} {W:World} {m:Pm} {s:Ps} (h:Pu X W m s) (hF:1<=m.F) (k:Nat) (b:Box m s k) (hr:(s.T k).room<1+(m.F+262143) / 262144) (h0:0<=(s.T k).room) :
 Calls Tryd.prog 11 #[pv m k] W fun e w'=>e=.returned (.tuple #[.int .i64 0,.int .i64 8])/\Pu X w' m s/\Kx X W w':=by
 have HB:Hid (Below W.heap.size W (W.alloc (.cells #[pp m.rb,pp m.b,pp m.tb,.int .i64 k] 27))):=Go.Joins.below_alloc1 _ _
 have BA:Hid (Blk (W.alloc (.cells #[pp m.rb,pp m.b,pp m.tb,.int .i64 k] 27)) W.heap.size [pp m.rb,pp m.b,pp m.tb,.int .i64 k] 27):=Blk.made W [pp m.rb,pp m.b,pp m.tb,.int .i64 k] 27
 have FC:Hid (∀ w:World,Below W.heap.size W w->Calls Tryd.prog 32 #[pp m.rb] w fun e w'=>e=.returned (.int .i64 m.F)/\w'=w):=fun w hb=>frames_c (h.below hb)
 have f0:1<=m.F:=hF
 have f1:m.F<=1000000:=h.so.F1
 obtain ⟨nt,hnt⟩: ∃ nt:Nat,(nt:Int)=1+(m.F+262143) / 262144:=⟨(1+(m.F+262143) / 262144).toNat,by omega⟩
 have nt5:nt<=5:=by omega
 have nt1:2<=nt:=by omega
 obtain ⟨F,hFF⟩: ∃ F,F=m.F:=⟨_,rfl⟩
 rw [<- hFF] at FC f0 f1 hnt
 have w1:IntKind.i64.wrap (F+262144)=F+262144:=by simp only [IntKind.wrap_i64];omega
 have w2:IntKind.i64.wrap (F+262144-1)=F+262144-1:=by simp only [IntKind.wrap_i64];omega
 have w3:(F+262144-1).tdiv 262144=(nt:Int)-1:=by rw [Int.tdiv_eq_ediv_of_nonneg (by omega)];omega
 have w4:IntKind.i64.wrap ((nt:Int)-1)=(nt:Int)-1:=by simp only [IntKind.wrap_i64];omega
 have w5:IntKind.i64.wrap (1+((nt:Int)-1))=(nt:Int):=by simp only [IntKind.wrap_i64];omega
 have w6:1+((nt:Int)-1)=(nt:Int):=by omega
 have TC:Hid (Calls Tryd.prog 33 #[pv m k,.int .i64 nt] (W.alloc (.cells #[pp m.rb,pp m.b,pp m.tb,.int .i64 k] 27)) fun e w'=>e=.returned (.tuple #[.slice none 0 0,.int .i64 8])/\Pu X w' m s/\Kx X W w'):=by
  refine (takeall_no (h.grow HB.out) k b nt (by omega) (by omega) h0).mono ?_
  rintro e w' ⟨he,hp,hk⟩
  exact ⟨he,pu_of h hp,kx_of h HB.out hk⟩
 clear b hr h0
 have HNT:Hid ((nt:Int)=1+(F+262143) / 262144/\F=m.F):=⟨hnt,hFF⟩
 clear h hnt hFF
 go_enter Tryd.func11,Tryd.ntmps11
 go_upto_region 1 with fail
 generalize (W.alloc (.cells #[pp m.rb,pp m.b,pp m.tb,.int .i64 k] 27))=W1 at HB BA TC |-
 obtain ⟨A,hA⟩: ∃ A,W.heap.size=A:=⟨_,rfl⟩
 have HA:Hid (A=W.heap.size):=hA.symm
 rw [hA] at BA |-
 clear hA
 have BX:=BA.out
 have c0:W1.cell? ⟨A,0,none⟩=some (pp m.rb):=BX.cell 0
 have c1:W1.cell? ⟨A,1,none⟩=some (pp m.b):=BX.cell 1
 have c2:W1.cell? ⟨A,2,none⟩=some (pp m.tb):=BX.cell 2
 have c3:W1.cell? ⟨A,3,none⟩=some (.int .i64 k):=BX.cell 3
 have lA:=BX.lt
 clear BX
 go_wp2_with fail
 refine Calls.mono (FC.out W1 HB.out) ?_
 rintro e w0 ⟨rfl,rfl⟩
 go_wp2_with fail
 refine Calls.mono TC.out ?_
 rintro e w4' ⟨rfl,hp4⟩
 have H4:Hid (Pu X w4' m s/\Kx X W w4'):=hp4
 clear hp4
 go_wp2_with fail
 go_returns
 exact ⟨rfl,H4.out⟩
set_option maxHeartbeats 4000000 in
theorem kernel_ok {X:Nat->Prop} {W:World} {m:Pm} {s:Ps} (h:Pu X W m s) (hF:1<=m.F) (k:Nat) (b:Box m s k) (hq:s.q<4000000000000000000) (hr:1+(m.F+262143) / 262144<=(s.T k).room) :
 Calls Tryd.prog 11 #[pv m k] W fun e w'=> ∃ (L:List Nat) (kf:Nat),e=.returned (.tuple #[.int .i64 kf,.int .i64 0])/\((L.length:Int)=1+(m.F+262143) / 262144/\InL s L/\kf∈L)/\Wrote X W m s k L w':=by
 have HB:Hid (Below W.heap.size W (W.alloc (.cells #[pp m.rb,pp m.b,pp m.tb,.int .i64 k] 27))):=Go.Joins.below_alloc1 _ _
 have BA:Hid (Blk (W.alloc (.cells #[pp m.rb,pp m.b,pp m.tb,.int .i64 k] 27)) W.heap.size [pp m.rb,pp m.b,pp m.tb,.int .i64 k] 27):=Blk.made W [pp m.rb,pp m.b,pp m.tb,.int .i64 k] 27
 have FC:Hid (∀ w:World,Below W.heap.size W w->Calls Tryd.prog 32 #[pp m.rb] w fun e w'=>e=.returned (.int .i64 m.F)/\w'=w):=fun w hb=>frames_c (h.below hb)
 have f0:1<=m.F:=hF
 have f1:m.F<=1000000:=h.so.F1
 obtain ⟨nt,hnt⟩: ∃ nt:Nat,(nt:Int)=1+(m.F+262143) / 262144:=⟨(1+(m.F+262143) / 262144).toNat,by omega⟩
 have nt5:nt<=5:=by omega
 have nt1:2<=nt:=by omega
 obtain ⟨F,hFF⟩: ∃ F,F=m.F:=⟨_,rfl⟩
 rw [<- hFF] at FC f0 f1 hnt
 have w1:IntKind.i64.wrap (F+262144)=F+262144:=by simp only [IntKind.wrap_i64];omega
 have w2:IntKind.i64.wrap (F+262144-1)=F+262144-1:=by simp only [IntKind.wrap_i64];omega
 have w3:(F+262144-1).tdiv 262144=(nt:Int)-1:=by rw [Int.tdiv_eq_ediv_of_nonneg (by omega)];omega
 have w4:IntKind.i64.wrap ((nt:Int)-1)=(nt:Int)-1:=by simp only [IntKind.wrap_i64];omega
 have w5:IntKind.i64.wrap (1+((nt:Int)-1))=(nt:Int):=by simp only [IntKind.wrap_i64];omega
 have w6:1+((nt:Int)-1)=(nt:Int):=by omega
 have TC:Hid (Calls Tryd.prog 33 #[pv m k,.int .i64 nt] (W.alloc (.cells #[pp m.rb,pp m.b,pp m.tb,.int .i64 k] 27)) fun e w'=> ∃ (L:List Nat) (g c:Nat),e=.returned (.tuple #[.slice (some ⟨g,0,none⟩) nt c,.int .i64 0])/\L.length=nt/\InL s L/\nt<=c/\TI X W W.heap.size m k { takeS s k L with M:=zeroL s.M L } L (.slice (some ⟨g,0,none⟩) nt c) w'):=by
  refine (takeall_ok (h.grow HB.out) k b nt (by omega) (by omega)).mono ?_
  rintro e w' ⟨L,v,he,hl,IN,hp,ho,hk⟩
  obtain ⟨pf,cf,hv,lc,_⟩:=(Li.ol_ll Li.eI_len ho).form
  rw [List.length_map,hl] at hv lc
  subst hv
  obtain ⟨g,rfl,lg,_⟩:=ii_read ho 0 (by omega)
  have bl:=(Li.row_lt ho g rfl).1
  have s1:(W.alloc (.cells #[pp m.rb,pp m.b,pp m.tb,.int .i64 k] 27)).heap.size=W.heap.size+1:=World.size_alloc _ _
  refine ⟨L,g,cf,he,hl,IN,lc,⟨hp.less (fun j hj=> ?_) (Or.inl h.x0),BA.out.kx hk (Or.inr ⟨Nat.le_refl _,by omega⟩),Li.row_weak ho HB.out.size,kx_of h HB.out hk,?_,h.tab.1,h.x0,h.lt⟩⟩
  . rcases hj with x | x | x
    . exact Or.inl (Or.inl x)
    . exact Or.inl (Or.inr ⟨by omega,by omega⟩)
    . exact Or.inr x
  . intro e;have e':some g=some W.heap.size:=e;cases e';omega
 have HFR:Hid (∀ L:List Nat,InL s L-> ∀ x∈L,m.has (x:Nat)=true/\x<1000000):=fun L IN x hx=>⟨h.so.fh x (IN.2 x hx),h.so.frb x (IN.2 x hx)⟩
 have HQ:Hid (s.q<4000000000000000000):=hq
 clear b hr hq
 have HNT:Hid ((nt:Int)=1+(F+262143) / 262144/\F=m.F):=⟨hnt,hFF⟩
 clear h hnt hFF
 go_enter Tryd.func11,Tryd.ntmps11
 go_upto_region 1 with fail
 generalize (W.alloc (.cells #[pp m.rb,pp m.b,pp m.tb,.int .i64 k] 27))=W1 at HB BA TC |-
 obtain ⟨A,hA⟩: ∃ A,W.heap.size=A:=⟨_,rfl⟩
 have HA:Hid (A=W.heap.size):=hA.symm
 rw [hA] at BA |-
 clear hA
 have BX:=BA.out
 have c0:W1.cell? ⟨A,0,none⟩=some (pp m.rb):=BX.cell 0
 have c1:W1.cell? ⟨A,1,none⟩=some (pp m.b):=BX.cell 1
 have c2:W1.cell? ⟨A,2,none⟩=some (pp m.tb):=BX.cell 2
 have c3:W1.cell? ⟨A,3,none⟩=some (.int .i64 k):=BX.cell 3
 have lA:=BX.lt
 clear BX
 go_wp2_with fail
 refine Calls.mono (FC.out W1 HB.out) ?_
 rintro e w0 ⟨rfl,rfl⟩
 go_wp2_with fail
 refine Calls.mono TC.out ?_
 rintro e w4' ⟨L,g,c,rfl,hl,IN0,lc,TI0⟩
 have HI:Hid (L.length=nt/\InL s L):=⟨hl,IN0⟩
 obtain ⟨g',e',lg,hc0⟩:=ii_read TI0.own 0 (by omega)
 cases e'
 obtain ⟨kf,hkf⟩: ∃ kf:Nat,L[0]'(by omega)=kf:=⟨_,rfl⟩
 rw [hkf] at hc0
 have HK:Hid (kf∈L/\m.has (kf:Nat)=true):=by rw [<- hkf];exact ⟨List.getElem_mem _,(HFR.out L IN0 _ (List.getElem_mem _)).1⟩
 have T0:Hid (TI X W A m k { takeS s k L with M:=zeroL s.M L,q:=s.q+2*0 } L (.slice (some ⟨g,0,none⟩) nt c) w4'):=by rw [HA.out];exact TI0
 have OT0:Hid ((∀ f:Nat,f∉L-> ∀ j:Nat,j<512->En (zeroL s.M L) f j=En s.M f j)):=fun f hf j hj=>zeroL_other L hf j hj
 clear TI0 hl IN0 hkf TC FC HB BA c0 c1 c2 c3 lA w1 w2 w3 w4 w5 w6
 have d1:((nt:Int) != 0)=true:=by simp;omega
 have d2:decide ((1:Int)<=(nt:Int))=true:=by simp;omega
 have d3:decide ((0:Int)<(nt:Int))=true:=by simp;omega
 have d4: ¬ (nt:Int)<1:=by omega
 have d5: ¬ (nt:Int)<0:=by omega
 have d6:decide ((nt:Int)<=(c:Int))=true:=by simp;omega
 have d7: ¬ nt=1:=by omega
 have d8: ¬ c=1:=by omega
 have d9: ¬ c-1=0:=by omega
 have d10: ¬ c<=1:=by omega
 have d11:1<c:=by omega
 go_upto_region 7 with fail
 obtain ⟨n1,hn1⟩: ∃ n1,nt=n1+1:=⟨nt-1,by omega⟩
 rw [show nt-1=n1 by omega]
 generalize c-1=c1
 have HN1:Hid (nt=n1+1):=hn1
 have n14:n1<=4:=by omega
 clear d1 d2 d3 d4 d5 d6 d7 d8 d9 d10 d11 hc0 lg hn1
 go_loopw [8,9,10,11,34,45] (fun _ _ _ _ va _ w=> ∃ (a:Nat) (M:Int->Int),a<=n1/\va=.int .i64 a/\Hid (TI X W A m k { takeS s k L with M:=M,q:=s.q+1100*a } L (.slice (some ⟨g,0,none⟩) nt c) w)/\Hid ((∀ f:Nat,f∉L-> ∀ j:Nat,j<512->En M f j=En s.M f j))) (fun _ _ _ _ va _ _=>n1-(Go.RowKit.intOf va).toNat)
 case atStart=>exact ⟨0,_,by omega,rfl,T0,OT0⟩
 case round =>
  clear T0 OT0
  obtain ⟨a,M,ha,rfl,TIa,OTa⟩:=hrel
  by_cases ca:a<n1
  rotate_left
  . obtain rfl:a=n1:=by omega
    have d1:decide ((a:Int)<(a:Int))=false:=by simp
    go_wp2_with fail
    go_returns
    refine ⟨L,kf,rfl,⟨?_,HI.out.2,HK.out.1⟩,M,?_,TIa.out.kx,OTa.out⟩
    . have:=HNT.out.1;have:=HNT.out.2;have:=HI.out.1;have:=HN1.out;omega
    . have q:=TIa.out.pu.less (X':=X) (fun j hj=>Or.inl hj) TIa.out.x0
      exact q.q (by show s.q+1100*a<=s.q+5000;omega)
  have d1:decide ((a:Int)<(n1:Int))=true:=by simp;omega
  have d2:decide ((a:Int)<0)=false:=by simp
  have aL:a+1<L.length:=by have:=HI.out.1;have:=HN1.out;omega
  obtain ⟨g',e',lg,hc⟩:=ii_read TIa.out.own (a+1) aL
  cases e'
  obtain ⟨z,hz⟩: ∃ z:Nat,L[a+1]=z:=⟨_,rfl⟩
  rw [hz] at hc
  rw [Nat.add_comm a 1] at hc
  have HZ:Hid (z∈L/\m.has (z:Nat)=true/\z<1000000):=by
   have zm:z∈L:=by rw [<- hz];exact List.getElem_mem _
   exact ⟨zm,HFR.out L HI.out.2 z zm⟩
  have a9:(a:Int)<512:=by omega
  have SC:Hid (Calls Tryd.prog 34 #[pv m k,.int .i64 kf,.int .i64 a,ev true true false false false false false false (z:Nat)] wr fun e w'=>e=.returned (.tuple #[])/\TI X W A m k { takeS s k L with M:=enSet M kf a (packV true true false false false false false false (z:Nat)),q:=s.q+1100*a+2+2*0 } L (.slice (some ⟨g,0,none⟩) nt c) w'):=by
   refine (set_any TIa.out.pu (by have:=HQ.out;show s.q+1100*a<_;omega) k kf a HK.out.2 (by omega) a9 true true false false false false false false (z:Nat) (by omega) (by have:=HZ.out.2.2;omega)).mono ?_
   rintro e w' ⟨he,hp,hk⟩
   exact ⟨he,TIa.out.step hp hk⟩
  have OT1:Hid ((∀ f:Nat,f∉L-> ∀ j:Nat,j<512->En (enSet M kf a (packV true true false false false false false false (z:Nat))) f j=En s.M f j)):=fun f hf j hj=>by
   rw [<- OTa.out f hf j hj]
   exact en_o M _ (i:=a) (by omega) hj (fun e=>hf (e.1 ▸ HK.out.1))
  generalize enSet M kf a (packV true true false false false false false false (z:Nat))=M1 at SC OT1
  have BX:=TIa.out.box
  have c0:wr.cell? ⟨A,0,none⟩=some (pp m.rb):=BX.cell 0
  have c1':wr.cell? ⟨A,1,none⟩=some (pp m.b):=BX.cell 1
  have c2:wr.cell? ⟨A,2,none⟩=some (pp m.tb):=BX.cell 2
  have c3:wr.cell? ⟨A,3,none⟩=some (.int .i64 k):=BX.cell 3
  have lA:=BX.lt
  clear BX TIa OTa hz aL
  go_wp2_with fail
  refine Calls.mono SC.out ?_
  rintro e w5 ⟨rfl,hT5⟩
  have TI1:Hid (TI X W A m k { takeS s k L with M:=M1,q:=s.q+1100*a+2+2*0 } L (.slice (some ⟨g,0,none⟩) nt c) w5):=hT5
  clear hT5 SC c0 c1' c2 c3 lA lg hc
  go_wp2_with fail
  go_loopw [10,11,45] (fun _ _ vi w=> ∃ (i:Nat) (M:Int->Int),i<=512/\vi=.int .i64 i/\Hid (TI X W A m k { takeS s k L with M:=M,q:=s.q+1100*a+2+2*i } L (.slice (some ⟨g,0,none⟩) nt c) w)/\Hid ((∀ f:Nat,f∉L-> ∀ j:Nat,j<512->En M f j=En s.M f j))) (fun _ _ vi _=>512-(Go.RowKit.intOf vi).toNat)
  case atStart=>exact ⟨0,M1,by omega,rfl,TI1,OT1⟩
  case round =>
   clear TI1 OT1
   obtain ⟨i,M,hi,rfl,TIi,OTi⟩:=hrel
   by_cases ci:i<512
   rotate_left
   . obtain rfl:i=512:=by omega
     rw [show ((512:Nat):Int)=(512:Int) from rfl]
     have TI2:Hid (TI X W A m k { takeS s k L with M:=M,q:=s.q+1100*(a+1) } L (.slice (some ⟨g,0,none⟩) nt c) wr):=TIi.out.q (by show s.q+1100*a+2+2*512<=_;omega)
     clear TIi
     go_wp2_with fail
     go_roundw
     case rel=>exact ⟨a+1,M,by omega,by go_num,TI2,OTi⟩
     case measure=>simp [Go.RowKit.intOf];omega
   have d3:decide ((i:Int)<512)=true:=by simp;omega
   have w1:IntKind.i64.wrap ((a:Int)*262144)=(a:Int)*262144:=by simp only [IntKind.wrap_i64];omega
   have w2:IntKind.i64.wrap ((i:Int)*512)=(i:Int)*512:=by simp only [IntKind.wrap_i64];omega
   have w3:IntKind.i64.wrap ((a:Int)*262144+(i:Int)*512)=(a:Int)*262144+(i:Int)*512:=by simp only [IntKind.wrap_i64];omega
   by_cases cf:F<=(a:Int)*262144+(i:Int)*512
   . have d4:decide (F<=(a:Int)*262144+(i:Int)*512)=true:=by simp [cf]
     have TI2:Hid (TI X W A m k { takeS s k L with M:=M,q:=s.q+1100*(a+1) } L (.slice (some ⟨g,0,none⟩) nt c) wr):=TIi.out.q (by show s.q+1100*a+2+2*i<=_;omega)
     clear TIi
     go_wp2_with fail
     go_roundw
     case rel=>exact ⟨a+1,M,by omega,by go_num,TI2,OTi⟩
     case measure=>simp [Go.RowKit.intOf];omega
   have d4:decide (F<=(a:Int)*262144+(i:Int)*512)=false:=by simp;omega
   have SC:Hid (Calls Tryd.prog 34 #[pv m k,.int .i64 (z:Nat),.int .i64 i,ev true true false false false true true true ((a:Int)*262144+(i:Int)*512)] wr fun e w'=>e=.returned (.tuple #[])/\TI X W A m k { takeS s k L with M:=enSet M (z:Nat) i (packV true true false false false true true true ((a:Int)*262144+(i:Int)*512)),q:=s.q+1100*a+2+2*(i+1) } L (.slice (some ⟨g,0,none⟩) nt c) w'):=by
    refine (set_any TIi.out.pu (by have:=HQ.out;show s.q+1100*a+2+2*i<_;omega) k (z:Nat) i HZ.out.2.1 (by omega) (by omega) true true false false false true true true ((a:Int)*262144+(i:Int)*512) (by omega) (by omega)).mono ?_
    rintro e w' ⟨he,hp,hk⟩
    exact ⟨he,TIi.out.step hp hk⟩
   have OT2:Hid ((∀ f:Nat,f∉L-> ∀ j:Nat,j<512->En (enSet M (z:Nat) i (packV true true false false false true true true ((a:Int)*262144+(i:Int)*512))) f j=En s.M f j)):=fun f hf j hj=>by
    rw [<- OTi.out f hf j hj]
    exact en_o M _ (i:=i) (by omega) hj (fun e=>hf (e.1 ▸ HZ.out.1))
   generalize enSet M (z:Nat) i (packV true true false false false true true true ((a:Int)*262144+(i:Int)*512))=M2 at SC OT2
   have BX:=TIi.out.box
   have c0:wr.cell? ⟨A,0,none⟩=some (pp m.rb):=BX.cell 0
   have c1':wr.cell? ⟨A,1,none⟩=some (pp m.b):=BX.cell 1
   have c2:wr.cell? ⟨A,2,none⟩=some (pp m.tb):=BX.cell 2
   have c3:wr.cell? ⟨A,3,none⟩=some (.int .i64 k):=BX.cell 3
   have lA:=BX.lt
   clear BX TIi OTi
   go_wp2_with fail
   refine Calls.mono SC.out ?_
   rintro e w6 ⟨rfl,hT6⟩
   have TI3:Hid (TI X W A m k { takeS s k L with M:=M2,q:=s.q+1100*a+2+2*(i+1) } L (.slice (some ⟨g,0,none⟩) nt c) w6):=hT6
   clear hT6 SC c0 c1' c2 c3 lA
   go_wp2_with fail
   go_roundw
   case rel=>exact ⟨i+1,M2,by omega,by go_num,TI3,OT2⟩
   case measure=>simp [Go.RowKit.intOf];omega
end Go.Proofs.YtkiclbnbnjbcaaaDoor.Tt
namespace Go.Proofs.YtkiclbnbnjbcaaaDoor.Tt
open Go.ChangeShapes Go.WideShapes Go.ChangeAt Go.RowKit Go.Maps
set_option linter.unusedSimpArgs false
set_option linter.unusedVariables false
set_option maxRecDepth 8000
def tab1 (root:Nat):Nat->Nat->Option Nat:=fun l x=>if l=4/\x=0 then some root else none
theorem tab1_is {root l x f:Nat} (h:tab1 root l x=some f):l=4/\x=0/\f=root:=by
 unfold tab1 at h
 by_cases c:l=4/\x=0
 . rw [if_pos c] at h;cases h;exact ⟨c.1,c.2,rfl⟩
 . rw [if_neg c] at h;cases h
theorem tab1_4 (root:Nat):tab1 root 4 0=some root:=if_pos ⟨rfl,rfl⟩
theorem pw_root {M:Int->Int} {root:Nat} (hz: ∀ i:Nat,i<512->i≠256->En M root i=0):PW M root (tab1 root) (fun _=>none):=by
 refine ⟨tab1_4 root,fun l x f e=> ?_,fun l x f hl e=> ?_,fun l x g h1 h2 h3 e1 e2=> ?_,(fun p v e=>by cases e),fun p g hp _ e=> ?_,fun l x l' x' f e1 e2=> ?_⟩
 . obtain ⟨rfl,rfl,_⟩:=tab1_is e;exact ⟨by omega,by omega,fun _=>rfl,by omega⟩
 . have:=(tab1_is e).1;omega
 . obtain ⟨a,b,rfl⟩:=tab1_is e2
   have:=h3 (by omega)
   exact hz _ (m512 x) (by omega)
 . have:=(tab1_is e).1;omega
 . have a:=tab1_is e1;have b:=tab1_is e2;omega
theorem full_root (root:Nat):Full (tab1 root) (fun _=>none):=fun l x f hl e=>by have:=(tab1_is e).1;omega
def Rooted (X:Nat->Prop) (W:World) (m:Pm) (s:Ps) (k root:Nat) (w':World):Prop :=
 ∃ M':Int->Int,s.Fr root/\Pu X w' m { takeS s k [root] with M:=M',q:=s.q+2 }/\Kx X W w'/\(∀ i:Nat,i<512->i≠256->En M' root i=0)/\ ∀ f:Nat,f≠root-> ∀ j:Nat,j<512->En M' f j=En s.M f j
set_option maxHeartbeats 2000000 in
theorem root_ok {X:Nat->Prop} {W:World} {m:Pm} {s:Ps} (h:Pu X W m s) (k:Nat) (b:Box m s k) (hq:s.q<4000000000000000000) (hr:1<=(s.T k).room) (kf:Nat) (hkf:kf<1048576) :
 Calls Tryd.prog 13 #[pv m k,.int .i64 kf] W fun e w'=> ∃ root:Nat,e=.returned (.tuple #[.int .i64 root,.int .i64 0])/\Rooted X W m s k root w':=by
 have HB:Below W.heap.size W (W.alloc (.cells #[pp m.rb,pp m.b,pp m.tb,.int .i64 k] 27)):=Go.Joins.below_alloc1 _ _
 obtain ⟨X2,hX2⟩: ∃ X2:Nat->Prop,X2=XW X W (W.alloc (.cells #[pp m.rb,pp m.b,pp m.tb,.int .i64 k] 27)):=⟨_,rfl⟩
 have xl:X2 W.heap.size:=by rw [hX2];exact xw_last X W _
 have P0:Pu X2 (W.alloc (.cells #[pp m.rb,pp m.b,pp m.tb,.int .i64 k] 27)) m s:=by rw [hX2];exact h.grow HB
 have BA:Blk (W.alloc (.cells #[pp m.rb,pp m.b,pp m.tb,.int .i64 k] 27)) W.heap.size [pp m.rb,pp m.b,pp m.tb,.int .i64 k] 27:=Blk.made W [pp m.rb,pp m.b,pp m.tb,.int .i64 k] 27
 have TC:Hid (Calls Tryd.prog 38 #[pv m k] (W.alloc (.cells #[pp m.rb,pp m.b,pp m.tb,.int .i64 k] 27)) fun e w'=> ∃ p:Nat,e=.returned (.tuple #[.int .i64 p,.int .i64 0])/\s.Fr p/\Pu X2 w' m { takeS s k [p] with M:=mzero s.M p }/\Kx X2 (W.alloc (.cells #[pp m.rb,pp m.b,pp m.tb,.int .i64 k] 27)) w'/\Blk w' W.heap.size [pp m.rb,pp m.b,pp m.tb,.int .i64 k] 27):=by
  refine (take_ok P0 k b hr).mono ?_
  rintro e w' ⟨p,he,hF,hp,hk⟩
  exact ⟨p,he,hF,hp,hk,BA.kx hk xl⟩
 have SC:Hid (∀ (w:World) (p:Nat),s.Fr p->Pu X2 w m { takeS s k [p] with M:=mzero s.M p }->Kx X2 (W.alloc (.cells #[pp m.rb,pp m.b,pp m.tb,.int .i64 k] 27)) w->Calls Tryd.prog 34 #[pv m k,.int .i64 p,.int .i64 256,ev true true false false false false false false (kf:Nat)] w fun e w'=>e=.returned (.tuple #[])/\Rooted X W m s k p w'):=fun w p hF hp hk=>by
  refine (set_any hp (by show s.q<_;omega) k p 256 (h.so.fh p hF) (by omega) (by omega) true true false false false false false false (kf:Nat) (by omega) (by omega)).mono ?_
  rintro e w' ⟨he,hp2,hk2⟩
  refine ⟨he,_,hF,hp2.less (fun j hj=>by rw [hX2];exact Or.inl hj) h.x0,?_,fun i hi h6=> ?_,fun f hf j hj=> ?_⟩
  . have k3:=hk.trans hk2
    rw [hX2] at k3
    exact kx_of h HB k3
  . show En (enSet (mzero s.M p) p 256 _) p i=0
    rw [en_other _ _ (by omega) (by omega) (by omega) (by omega) (Or.inr (by omega))]
    exact en_zero _ _ _ (by omega) (by omega)
  . show En (enSet (mzero s.M p) p 256 _) f j=_
    rw [en_other _ _ (by omega) (by omega) (by omega) (by omega) (Or.inl (by omega))]
    exact en_zero_other _ (by omega) (by omega) (by omega)
 have BX:=BA
 have c0:(W.alloc (.cells #[pp m.rb,pp m.b,pp m.tb,.int .i64 k] 27)).cell? ⟨W.heap.size,0,none⟩=some (pp m.rb):=BX.cell 0
 have c1:(W.alloc (.cells #[pp m.rb,pp m.b,pp m.tb,.int .i64 k] 27)).cell? ⟨W.heap.size,1,none⟩=some (pp m.b):=BX.cell 1
 have c2:(W.alloc (.cells #[pp m.rb,pp m.b,pp m.tb,.int .i64 k] 27)).cell? ⟨W.heap.size,2,none⟩=some (pp m.tb):=BX.cell 2
 have c3:(W.alloc (.cells #[pp m.rb,pp m.b,pp m.tb,.int .i64 k] 27)).cell? ⟨W.heap.size,3,none⟩=some (.int .i64 k):=BX.cell 3
 have HA:Hid (_):=BA
 clear h b hq hr hkf HB P0 BA BX xl hX2
 go_enter Tryd.func13,Tryd.ntmps13
 go_wp2_with fail
 refine Calls.mono TC.out ?_
 rintro e w1 ⟨p,rfl,hF,hp,hk,BX⟩
 have S1:Hid (_):=SC.out w1 p hF hp hk
 clear c0 c1 c2 c3
 have c0:w1.cell? ⟨W.heap.size,0,none⟩=some (pp m.rb):=BX.cell 0
 have c1:w1.cell? ⟨W.heap.size,1,none⟩=some (pp m.b):=BX.cell 1
 have c2:w1.cell? ⟨W.heap.size,2,none⟩=some (pp m.tb):=BX.cell 2
 have c3:w1.cell? ⟨W.heap.size,3,none⟩=some (.int .i64 k):=BX.cell 3
 have lA:=BX.lt
 clear hF hp hk BX TC SC HA
 go_wp2_with fail
 refine Calls.mono S1.out ?_
 rintro e w2 ⟨rfl,hR⟩
 have H2:Hid (Rooted X W m s k p w2):=hR
 clear hR
 go_wp2_with fail
 go_returns
 exact ⟨p,rfl,H2.out⟩
theorem new5 (F:Int) (f0:1<=F) (f1:F<=1048576) (w:World) :
 Calls Tryd.prog 29 #[.int .i64 F,.slice none 0 0] w fun e w'=> ∃ (rb:Nat) (K:Nat->Prop) (S:List Nat),e=.returned (.tuple #[.pointer (some ⟨rb,0,none⟩),.int .i64 0])/\Ram5 w' K S rb (hasF F) F (fun _=>0) 0/\(∀ j,j<w.heap.size->K j)/\(∀ s,s∈S->w.heap.size<=s)/\Below w.heap.size w w':=by
 refine (new_walk F f0 f1 w).mono ?_
 rintro e w' ⟨he,hw⟩
 subst hw
 have hsz:(w.alloc (.map #[] 0)).heap.size=w.heap.size+1:=World.size_alloc ..
 have hg:(w.alloc (.map #[] 0)).grownBy ((w.alloc (.map #[] 0)).alloc (.cells #[.int .i64 F,.slice none 0 0,.map (some w.heap.size)] 144)) none:=World.grownBy_alloc _ _ none
 have hc: ∀ i,((w.alloc (.map #[] 0)).alloc (.cells #[.int .i64 F,.slice none 0 0,.map (some w.heap.size)] 144)).cell? ⟨w.heap.size+1,i,none⟩= #[Value.int .i64 F,.slice none 0 0,.map (some w.heap.size)][i]? :=fun i=>World.cell?_alloc_at _ _ _ _ hsz.symm
 have hok:HasOk ((w.alloc (.map #[] 0)).alloc (.cells #[.int .i64 F,.slice none 0 0,.map (some w.heap.size)] 144)) (w.heap.size+1) [w.heap.size+1] (hasF F):=by
  refine ⟨by simp,?_,?_⟩
  . intro s hs
    simp at hs
    subst hs
    rw [World.size_alloc,hsz];omega
  . intro w1 e1 _ k
    have hb:=e1 (w.heap.size+1) (by simp)
    refine (has_nil (w.heap.size+1) F k w1 ?_ ?_).mono ?_
    . rw [World.cell?_of_block (a:=⟨w.heap.size+1,0,none⟩) hb];exact hc 0
    . rw [World.cell?_of_block (a:=⟨w.heap.size+1,1,none⟩) hb];exact hc 1
    . rintro e w2 ⟨he2,hw2⟩
      exact ⟨he2,by rw [hw2];exact World.grownBy.refl _ _⟩
 refine ⟨w.heap.size+1,fun j=>j<w.heap.size\/j∈[w.heap.size+1],[w.heap.size+1],he,⟨⟨w.heap.size,[w.heap.size+1],fun _=>none,⟨Nat.zero_le _,Nat.zero_le _,hok,by simp,hc 0,hc 2,(Mem.made w).kept hg (by simp),?_,?_,?_,?_⟩,?_,?_,?_⟩,hok,fun s hs=>Or.inr hs⟩,fun j hj=>Or.inl hj,?_,?_⟩
 . intro k b h;cases h
 . intro k k' b h;cases h
 . intro k _ i _;rfl
 . intro t;exact ⟨by simp,by simp⟩
 . simp
 . intro k b h;cases h
 . intro j hj
   rw [World.size_alloc,hsz]
   simp at hj;omega
 . intro s hs';simp at hs';omega
 . exact ((Below.refl _ _).alloc (Nat.le_refl _) _).alloc (by rw [World.size_alloc];omega) _
theorem pu_make {w0 w1 w2 w3 w4:World} {K:Nat->Prop} {S:List Nat} {rb b N:Nat} {has:Int->Bool} {F:Int} {Fr:Nat->Prop} {T:Nat->Qu.Nd} (h5:Ram5 w1 K S rb has F (fun _=>0) 0) (hK: ∀ j,j<w0.heap.size->K j) (hS: ∀ s,s∈S->w0.heap.size<=s) (b01:Below w0.heap.size w0 w1) (b12:Below w1.heap.size w1 w2)
 (hB:Bd.Bu (fun j=>j<w2.heap.size) w3 b N Fr Bd.noneF) (b23:Below w2.heap.size w2 w3) (hT:Qu.IsTree w4 w3.heap.size T) (b34:Below w3.heap.size w3 w4) (tb:Tab w0) (so:Sound ⟨rb,b,w3.heap.size,has,F⟩ ⟨fun _=>0,Fr,Bd.noneF,T,0⟩) :
 Pu (fun j=>j<w0.heap.size) w4 ⟨rb,b,w3.heap.size,has,F⟩ ⟨fun _=>0,Fr,Bd.noneF,T,0⟩:=by
 have b14:Below w1.heap.size w1 w4:=below_then (below_then b12 b23) b34
 have s01:=b01.size
 have s12:=b12.size
 have s23:=b23.size
 have s34:=b34.size
 have lt:=hT.2.2
 have r5:=ram_other h5 b14.size (fun j hj _=>b14.block j hj)
 have bu:=((hB.tight (m:=1000000) (fun i hi=>so.frb i hi) (fun x hx=>by cases hx)).next b34.size (fun j hj _=>b34.block j hj))
 have sl: ∀ s,s∈S->s<w1.heap.size:=h5.ok.2.1
 refine ⟨_,_,S,r5,bu,hT,fun j hj=> ?_,⟨Or.inr ⟨(by show w1.heap.size<=w3.heap.size;omega),lt⟩,(fun e=>by have q:w3.heap.size<w1.heap.size:=sl _ e;omega),Or.inr ⟨Nat.le_refl _,lt⟩⟩,fun j hj=>⟨Or.inl (hK j hj),fun e=>by have:=hS j e;omega,Or.inl (by omega),by show j≠w3.heap.size;omega⟩,(tb.below (below_then b01 b14) tb.1),tb.1,so⟩
 by_cases c:j<w2.heap.size
 . exact Or.inr (Or.inl c)
 . exact Or.inl ⟨Or.inr ⟨by omega,hj⟩,fun e=>by have:=sl j e;omega⟩
set_option maxHeartbeats 2000000 in
theorem used_c {X:Nat->Prop} {W:World} {m:Pm} {s:Ps} (h:Pu X W m s) (k:Nat):Calls Tryd.prog 17 #[pv m k] W fun e w'=>e=.returned (.int .i64 (Qu.getN s.T k).used)/\Below W.heap.size W w':=by
 have HB:Hid (Below W.heap.size W (W.alloc (.cells #[pp m.rb,pp m.b,pp m.tb,.int .i64 k] 27))):=Go.Joins.below_alloc1 _ _
 have GC:Hid (Calls Tryd.prog 43 #[pp m.tb,.int .i64 k] (W.alloc (.cells #[pp m.rb,pp m.b,pp m.tb,.int .i64 k] 27)) fun e w'=>e=.returned (.tuple #[(Qu.getN s.T k).val,.bool (Qu.getN s.T k).live])/\Below (W.alloc (.cells #[pp m.rb,pp m.b,pp m.tb,.int .i64 k] 27)).heap.size (W.alloc (.cells #[pp m.rb,pp m.b,pp m.tb,.int .i64 k] 27)) w'):=(h.below HB.out).get k
 generalize Qu.getN s.T k=nd at GC |-
 obtain ⟨n0,n1,n2,n3,n4⟩:=nd
 clear h
 go_enter Tryd.func17,Tryd.ntmps17
 go_wp2_with fail
 refine Calls.mono GC.out ?_
 rintro e w1 ⟨rfl,hb1⟩
 have HB1:Hid (Below W.heap.size W w1):=below_then HB.out hb1
 clear hb1 GC HB
 go_wp2_with fail
 go_ret
 exact ⟨rfl,below_new HB1.out _⟩
end Go.Proofs.YtkiclbnbnjbcaaaDoor.Tt
namespace Go.Proofs.YtkiclbnbnjbcaaaDoor.Tt
open Go.ChangeShapes Go.WideShapes Go.ChangeAt Go.RowKit Go.Maps
set_option linter.unusedSimpArgs false
set_option linter.unusedVariables false
set_option maxRecDepth 8000
theorem results_ct {fn:Func} {p q:Tmp} {t:TypeId} (h:fn.results= #[.cell p t,.tmp q]) (tmps:Array Value) (P:Program) (w:World) (a:Addr) (x y:Value)
 (ha:tmps.getD p undef=.pointer (some a)) (hb:tmps.getD q undef=y) (hx:(loadVar t a).run P w=.ok x w):(results fn tmps).run P w=.ok (.tuple #[x,y]) w:=by
 simp only [results,h]
 have e1: ∀ W:World,(asAddr (Value.pointer (some a))).run P W=.ok a W:=fun _=>rfl
 simp at ha hb
 simp [Sem.run_bind,Result.andThen,ha,hb,e1,hx]
abbrev from1 (F:Int):Nat->Prop:=fun i=>1<=i/\(i:Int)<F
abbrev pm0 (rb b tb:Nat) (F:Int):Pm:=⟨rb,b,tb,hasF F,F⟩
abbrev ps0 (Fr:Nat->Prop) (may:Int):Ps:=⟨fun _=>0,Fr,Bd.noneF,Qu.rootT may,0⟩
theorem has_is (F k:Int):hasF F k=true↔0<=k/\k<F:=by unfold hasF;simp
theorem ru_from (F:Int) (hF:0<=F) (f:Nat):Bd.RU (fun _=>((f:Int),F)) 1=fun i:Nat=>f<=i/\(i:Int)<F:=by
 funext i;apply propext
 constructor
 . rintro ⟨m,_,h1,h2⟩;exact ⟨by simp only at h1;omega,h2⟩
 . rintro ⟨h1,h2⟩;exact ⟨0,by omega,by simp only;omega,h2⟩
theorem sound0 {rb b tb:Nat} {F G may:Int} (h1:F<=1000000) (hG:G<=F) (m0:0<=may) (m1:may<=1048576):Sound (pm0 rb b tb F) (ps0 (fun i=>1<=i/\(i:Int)<G) may) :=
 ⟨fun k hk=>(has_is F k).1 hk,h1,fun i hi=>(has_is F i).2 ⟨by omega,by have:=hi.2;omega⟩,(fun x hx=>by cases hx),(Qu.root_good may m0 m1).okT,fun i _=>rfl⟩
theorem rgs_one (w:World) (f t:Int):Bd.Rgs (w.alloc (.cells #[.int .i64 f,.int .i64 t] 82)) w.heap.size 1 (fun _=>(f,t)):=by
 have ow:=own1 w (.cells #[.int .i64 f,.int .i64 t] 82)
 refine ⟨blk_lt ow,fun i hi=> ?_⟩
 obtain rfl:i=0:=by omega
 exact ⟨by rw [Go.Joins.cell_of_block ow];rfl,by rw [Go.Joins.cell_of_block ow];rfl⟩
theorem bnew (w:World) (G:Int) (g0:2<=G) (g1:G<=1000000):Calls Tryd.prog 30 #[.slice (some ⟨w.heap.size,0,none⟩) 1 1] (w.alloc (.cells #[.int .i64 1,.int .i64 G] 82)) fun e w'=> ∃ b N,e=.returned (.tuple #[.pointer (some ⟨b,0,none⟩),.int .i64 0])/\Bd.Bu (fun j=>j<(w.alloc (.cells #[.int .i64 1,.int .i64 G] 82)).heap.size) w' b N (fun i=>1<=i/\(i:Int)<G) Bd.noneF/\Below (w.alloc (.cells #[.int .i64 1,.int .i64 G] 82)).heap.size (w.alloc (.cells #[.int .i64 1,.int .i64 G] 82)) w':=by
 have fo:Bd.Form (fun _=>((1:Int),G)) 1:=fun i hi=>by
  obtain rfl:i=0:=by omega
  exact ⟨by show (0:Int)<=_;simp only;omega,by simp only;omega,by simp only;omega⟩
 refine (Bd.new_ok w.heap.size 1 1 (by omega) _ _ (rgs_one w 1 G) fo).mono ?_
 rintro e w' ⟨b,he,hB,hb⟩
 rw [show (fun _:Nat=>((1:Int),G))=(fun _=>(((1:Nat):Int),G)) from rfl,ru_from G (by omega) 1] at hB
 exact ⟨b,_,he,hB,hb⟩
set_option maxHeartbeats 2000000 in
theorem purse_ok (W:World) (tb0:Tab W) (F may:Int) (f0:2<=F) (f1:F<=1000000) (m0:0<=may) (m1:may<=1048576) :
 Calls Tryd.prog 9 #[.int .i64 F,.int .i64 may] W fun e w'=> ∃ rb b tb:Nat,e=.returned (.tuple #[.agg #[pp rb,pp b,pp tb,.int .i64 0],.bool true])/\Pu (fun j=>j<W.heap.size) w' (pm0 rb b tb F) (ps0 (from1 F) may)/\Below W.heap.size W w':=by
 have HB0:Below W.heap.size W (W.alloc (.cells #[.pointer none,.pointer none,.pointer none,.int .i64 0] 27)):=Go.Joins.below_alloc1 _ _
 have RC:Hid _:=new5 F (by omega) (by omega) (W.alloc (.cells #[.pointer none,.pointer none,.pointer none,.int .i64 0] 27))
 have BR0:Hid (Blk (W.alloc (.cells #[.pointer none,.pointer none,.pointer none,.int .i64 0] 27)) W.heap.size [.pointer none,.pointer none,.pointer none,.int .i64 0] 27/\Below W.heap.size W (W.alloc (.cells #[.pointer none,.pointer none,.pointer none,.int .i64 0] 27))/\Tab (W.alloc (.cells #[.pointer none,.pointer none,.pointer none,.int .i64 0] 27))/\(W.alloc (.cells #[.pointer none,.pointer none,.pointer none,.int .i64 0] 27)).heap.size=W.heap.size+1):=⟨Blk.made W [.pointer none,.pointer none,.pointer none,.int .i64 0] 27,HB0,tb0.keep HB0,World.size_alloc _ _⟩
 have BC:Hid (∀ w:World,_):=fun w=>bnew w F f0 f1
 have QC:Hid (∀ w:World,_):=fun w=>Qu.new_ok may m0 m1 w
 have SO:Hid (∀ rb b tb:Nat,Sound (pm0 rb b tb F) (ps0 (from1 F) may)):=fun rb b tb=>sound0 f1 (Int.le_refl _) m0 m1
 have WP:Hid (0<W.heap.size):=tb0.1
 clear HB0 tb0 f0 f1 m0 m1
 go_enter Tryd.func9,Tryd.ntmps9
 go_upto_region 1 with fail
 generalize (W.alloc (.cells #[.pointer none,.pointer none,.pointer none,.int .i64 0] 27))=W0 at RC BR0 |-
 obtain ⟨R,hR⟩: ∃ R,R=W.heap.size:=⟨_,rfl⟩
 rw [<- hR]
 have HR:Hid (R=W.heap.size):=hR
 clear hR
 go_wp2_with fail
 refine Calls.mono RC.out ?_
 rintro e w1 ⟨rb,K,S,rfl,h5,hK,hS,b01⟩
 have H1:Hid (Ram5 w1 K S rb (hasF F) F (fun _=>0) 0/\(∀ j,j<W0.heap.size->K j)/\(∀ s,s∈S->W0.heap.size<=s)/\Below W0.heap.size W0 w1):=⟨h5,hK,hS,b01⟩
 clear h5 hK hS b01 RC
 go_wp2_with fail
 refine Calls.mono (BC.out w1) ?_
 rintro e w3 ⟨b,NN,rfl,hB,b23⟩
 obtain ⟨w2,hw2⟩: ∃ w2,w2=w1.alloc (.cells #[.int .i64 1,.int .i64 F] 82):=⟨_,rfl⟩
 have b12:Below w1.heap.size w1 w2:=by rw [hw2];exact Go.Joins.below_alloc1 _ _
 rw [<- hw2] at hB b23
 have H3:Hid (Bd.Bu (fun j=>j<w2.heap.size) w3 b NN (fun i=>1<=i/\(i:Int)<F) Bd.noneF/\Below w1.heap.size w1 w2/\Below w2.heap.size w2 w3):=⟨hB,b12,b23⟩
 clear hB b23 b12 hw2 BC
 go_wp2_with fail
 refine Calls.mono (QC.out w3) ?_
 rintro e w4 ⟨rfl,⟨hT,b34,_⟩⟩
 have P4:Hid (Pu (fun j=>j<W0.heap.size) w4 (pm0 rb b w3.heap.size F) (ps0 (from1 F) may)/\Below W0.heap.size W0 w4):=⟨pu_make H1.out.1 H1.out.2.1 H1.out.2.2.1 H1.out.2.2.2 H3.out.2.1 H3.out.1 H3.out.2.2 hT b34 BR0.out.2.2.1 (SO.out rb b _),below_then (below_then (below_then H1.out.2.2.2 H3.out.2.1) H3.out.2.2) b34⟩
 clear hT b34 QC H1 H3
 obtain ⟨tb,htb⟩: ∃ tb,tb=w3.heap.size:=⟨_,rfl⟩
 rw [<- htb] at P4 |-
 clear htb
 have BR:Hid (Blk w4 R [.pointer none,.pointer none,.pointer none,.int .i64 0] 27):=by rw [HR.out];exact BR0.out.1.below P4.out.2
 have F1:Hid (Blk (w4.setCells R 0 [pp rb,pp b,pp tb,.int .i64 0]) R [pp rb,pp b,pp tb,.int .i64 0] 27/\Below W.heap.size W (w4.setCells R 0 [pp rb,pp b,pp tb,.int .i64 0])/\Pu (fun j=>j<W.heap.size) (w4.setCells R 0 [pp rb,pp b,pp tb,.int .i64 0]) (pm0 rb b tb F) (ps0 (from1 F) may)):=by
  have sz:=BR0.out.2.2.2
  have rw':=HR.out
  have W0p:=WP.out
  refine ⟨BR.out.put rfl,below_put (below_then BR0.out.2.1 P4.out.2) (by omega) _,?_⟩
  exact (P4.out.1.poke (j:=R) (by omega) (by omega) (Qu.grown_setCells R [pp rb,pp b,pp tb,.int .i64 0] 0 w4)).less (fun j hj=>by omega) (by omega)
 have TH:Hid (w4.there R 0 4):=BR.out.there
 clear BR P4 BR0
 go_wp2_with (refine store_pat R 0 #[pp rb,pp b,pp tb,.int .i64 0] ?hx ?hy ?ht ?hi ?h1 ?rest;(case hx=>rfl);(case hy=>rfl);(case ht=>exact TH.out);(case hi=>kernel_rfl);(case h1=>simp [Value.oneCell']);(try simp only [List.toList_toArray]);generalize w4.setCells R 0 [pp rb,pp b,pp tb,.int .i64 0]=V at F1 |-)
 refine bodyPost_ret (v:=.tuple #[.agg #[pp rb,pp b,pp tb,.int .i64 0],.bool true]) (results_ct Tryd.results9 _ _ _ _ _ _ rfl rfl (run_loadVar_mid (P:=Tryd.prog) _ R 0 27 [pp rb,pp b,pp tb,.int .i64 0] _ F1.out.1.range Tryd.underlying27 rfl (by kernel_rfl))) rfl ?_
 exact ⟨rb,b,tb,rfl,F1.out.2.2,F1.out.2.1⟩
end Go.Proofs.YtkiclbnbnjbcaaaDoor.Tt
namespace Go.Proofs.YtkiclbnbnjbcaaaDoor.Tt
open Go.ChangeShapes Go.WideShapes Go.ChangeAt Go.RowKit Go.Maps
set_option linter.unusedSimpArgs false
set_option linter.unusedVariables false
set_option maxRecDepth 8000
theorem cnt_from (G:Nat) (hG:1<=G) (h:G<=1048576):Bd.cnt (fun i:Nat=>1<=i/\(i:Int)<(G:Int)) 1048576=G-1:=by
 have e:(fun i:Nat=>1<=i/\(i:Int)<(G:Int))=(fun i=>1<=i/\i<G):=by funext i;apply propext;omega
 rw [e,Bd.cnt_seg 1 G hG];omega
theorem root0 (q:Int):Qu.rootT q 0=⟨-1,q,0,0,true⟩:=Qu.put_same _ _ _
theorem take_room (s:Ps) (k:Nat) (L:List Nat):((takeS s k L).T k).room=(s.T k).room-L.length:=by
 show (usedT s.T k (L.length:Int) k).room=_
 rw [used_at]
 show (s.T k).quota-((s.T k).used+L.length)-(s.T k).lent=(s.T k).quota-(s.T k).used-(s.T k).lent-L.length
 omega
theorem take_used (s:Ps) (k:Nat) (L:List Nat):((takeS s k L).T k).used=(s.T k).used+L.length:=by
 show (usedT s.T k (L.length:Int) k).used=_
 rw [used_at];rfl
theorem take_live (s:Ps) (k:Nat) (L:List Nat):((takeS s k L).T k).live=(s.T k).live:=by
 show (usedT s.T k (L.length:Int) k).live=_
 rw [used_at];rfl
theorem take_cnt {m:Pm} {s:Ps} (so:Sound m s) (k:Nat) {L:List Nat} (IN:InL s L):Bd.cnt (takeS s k L).Fr 1048576+L.length=Bd.cnt s.Fr 1048576:=cnt_out so.frb L IN.1 IN.2
structure Nums (m:Pm) (s:Ps) (k:Nat) (room used:Int) (free:Nat):Prop where
 k6:k<64
 live:(s.T k).live=true
 room:(s.T k).room=room
 used:(s.T k).used=used
 free:Bd.cnt s.Fr 1048576=free
theorem Nums.box {m:Pm} {s:Ps} {k:Nat} {r u:Int} {f:Nat} (h:Nums m s k r u f) (hf:10<=f\/r<=f):Box m s k :=
 ⟨h.k6,h.live,by rw [h.room,h.free];omega⟩
theorem Nums.get {m:Pm} {s:Ps} {k:Nat} {r u:Int} {f:Nat} (h:Nums m s k r u f):(Qu.getN s.T k).used=u:=by
 have:=h.k6
 unfold Qu.getN
 rw [if_pos ⟨by omega,by omega⟩,Int.toNat_natCast];exact h.used
theorem Nums.take {m:Pm} {s:Ps} {k:Nat} {r u:Int} {f:Nat} (h:Nums m s k r u f) (so:Sound m s) {L:List Nat} (IN:InL s L) (M:Int->Int) (q:Nat):Nums m { takeS s k L with M:=M,q:=q } k (r-L.length) (u+L.length) (f-L.length) :=
 ⟨h.k6,(take_live s k L).trans h.live,(take_room s k L).trans (by rw [h.room]),(take_used s k L).trans (by rw [h.used]),by have:=take_cnt so k IN;have:=h.free;show Bd.cnt (takeS s k L).Fr 1048576=_;omega⟩
theorem nums0 (m:Pm) (G:Nat) (may:Int) (hG:1<=G) (h:G<=1048576):Nums m (ps0 (fun i=>1<=i/\(i:Int)<(G:Int)) may) 0 may 0 (G-1):=by
 refine ⟨by omega,?_,?_,?_,cnt_from G hG h⟩
 . show (Qu.rootT may 0).live=true;rw [root0]
 . show (Qu.rootT may 0).room=may;rw [root0];show may-0-0=may;omega
 . show (Qu.rootT may 0).used=0;rw [root0]
theorem rt_root {m:Pm} {s:Ps} {k root:Nat} {M':Int->Int} {q:Nat} (so:Sound m s) (hF:s.Fr root) (hz: ∀ i:Nat,i<512->i≠256->En M' root i=0):Rt m { takeS s k [root] with M:=M',q:=q } root (tab1 root) (fun _=>none) :=
 ⟨pw_root hz,full_root root,fun l x f e=>by
  obtain ⟨_,_,rfl⟩:=tab1_is e
  refine ⟨so.fh f hF,?_,fun q=> ?_⟩
  . show (if 0<=(f:Int)/\(f:Int).toNat∈[f] then some 0 else s.G f)=some 0
    rw [if_pos ⟨by omega,by simp⟩]
  . exact q.2 (by simp)⟩
theorem rt_mapped {m:Pm} {s:Ps} {k root:Nat} {tab tab':Nat->Nat->Option Nat} {lf lf':Nat->Option Lf} {M':Int->Int} {q:Nat} {L:List Nat} (so:Sound m s) (H:Rt m s root tab lf) (IN:InL s L) (pw:PW M' root tab' lf') (fu:Full tab' lf') (new: ∀ l x f,tab' l x=some f->tab l x=some f\/f∈L):Rt m { takeS s k L with M:=M',q:=q } root tab' lf' :=
 ⟨pw,fu,fun l x f e=>by
  rcases new l x f e with o | o
  . obtain ⟨a,b,c⟩:=H.ow l x f o
    refine ⟨a,?_,fun q=>c q.1⟩
    show (if 0<=(f:Int)/\(f:Int).toNat∈L then some 0 else s.G f)=some 0
    split
    . rfl
    . exact b
  . refine ⟨so.fh f (IN.2 f o),?_,fun q=>q.2 o⟩
    show (if 0<=(f:Int)/\(f:Int).toNat∈L then some 0 else s.G f)=some 0
    rw [if_pos ⟨by omega,by simpa using o⟩]⟩
theorem miss_root (root p:Nat):miss (tab1 root) p=3:=by
 unfold miss
 rw [if_pos]
 unfold tab1;rw [if_neg (by omega)]
end Go.Proofs.YtkiclbnbnjbcaaaDoor.Tt
namespace Go.Proofs.YtkiclbnbnjbcaaaDoor.Tt
open Go.ChangeShapes Go.WideShapes Go.ChangeAt Go.RowKit Go.Maps
set_option linter.unusedSimpArgs false
set_option linter.unusedVariables false
set_option maxRecDepth 8000
theorem eqPerm1 (W:World):(binOp .eql 40 (.agg #[.bool false,.bool true,.bool false]) (.agg #[.bool false,.bool true,.bool false])).run Tryd.prog W=.ok (.bool true) W:=by kernel_rfl
set_option maxHeartbeats 4000000 in
theorem awake_any (W:World) (tb0:Tab W):Calls Tryd.prog 10 #[] W fun e w'=>e=.returned (.bool true)/\Below W.heap.size W w':=by
 have PC:Hid _:=purse_ok W tb0 20 20 (by omega) (by omega) (by omega) (by omega)
 have WP:Hid (0<W.heap.size):=tb0.1
 clear tb0
 go_enter Tryd.func10,Tryd.ntmps10
 go_wp2_with fail
 refine Calls.mono PC.out ?_
 rintro e w1 ⟨rb,b,tb,rfl,hp1,hb1⟩
 obtain ⟨X,hX⟩: ∃ X:Nat->Prop,X=XW (fun j=>j<W.heap.size) w1 (w1.alloc (.cells #[pp rb,pp b,pp tb,.int .i64 0] 27)):=⟨_,rfl⟩
 have F2:Hid (Pu X (w1.alloc (.cells #[pp rb,pp b,pp tb,.int .i64 0] 27)) (pm0 rb b tb 20) (ps0 (from1 20) 20)/\Blk (w1.alloc (.cells #[pp rb,pp b,pp tb,.int .i64 0] 27)) w1.heap.size [pp rb,pp b,pp tb,.int .i64 0] 27/\X w1.heap.size/\(∀ j,j<W.heap.size->X j)/\Below W.heap.size W (w1.alloc (.cells #[pp rb,pp b,pp tb,.int .i64 0] 27))):=by
  refine ⟨by rw [hX];exact hp1.grow (Go.Joins.below_alloc1 _ _),Blk.made w1 [pp rb,pp b,pp tb,.int .i64 0] 27,by rw [hX];exact Or.inr ⟨Nat.le_refl _,by rw [World.size_alloc];omega⟩,fun j hj=>by rw [hX];exact Or.inl hj,below_then hb1 (Go.Joins.below_alloc1 _ _)⟩
 clear hp1 hb1 hX PC
 go_upto_region 4 with fail
 generalize (w1.alloc (.cells #[pp rb,pp b,pp tb,.int .i64 0] 27))=w2 at F2 |-
 generalize w1.heap.size=B at F2 |-
 have XB:Hid (X B/\(∀ j,j<W.heap.size->X j)/\Below W.heap.size W w2):=⟨F2.out.2.2.1,F2.out.2.2.2⟩
 have BB:Hid (Blk w2 B [pp rb,pp b,pp tb,.int .i64 0] 27):=F2.out.2.1
 have P0:Hid (Pu X w2 (pm0 rb b tb 20) (ps0 (from1 20) 20)):=F2.out.1
 have N0:Hid (Nums (pm0 rb b tb 20) (ps0 (from1 20) 20) 0 20 0 19):=nums0 (pm0 rb b tb 20) 20 20 (by omega) (by omega)
 clear F2
 have KC:Hid (Calls Tryd.prog 11 #[.agg #[pp rb,pp b,pp tb,.int .i64 0]] w2 fun e w'=> ∃ (L:List Nat) (kf:Nat),e=.returned (.tuple #[.int .i64 kf,.int .i64 0])/\(L.length=2/\InL (ps0 (from1 20) 20) L/\kf∈L)/\Wrote X w2 (pm0 rb b tb 20) (ps0 (from1 20) 20) 0 L w'):=by
  refine (kernel_ok P0.out (by show (1:Int)<=20;omega) 0 (N0.out.box (by omega)) (by show 0<_;omega) (by rw [N0.out.room];show 1+((20:Int)+262143) / 262144<=20;omega)).mono ?_
  rintro e w' ⟨L,kf,he,⟨h1,h2⟩,hw⟩
  have h1':(L.length:Int)=1+((20:Int)+262143) / 262144:=h1
  exact ⟨L,kf,he,⟨by omega,h2⟩,hw⟩
 have BX:=BB.out
 have c0:w2.cell? ⟨B,0,none⟩=some (pp rb):=BX.cell 0
 have c1:w2.cell? ⟨B,1,none⟩=some (pp b):=BX.cell 1
 have c2:w2.cell? ⟨B,2,none⟩=some (pp tb):=BX.cell 2
 have c3:w2.cell? ⟨B,3,none⟩=some (.int .i64 0):=BX.cell 3
 have lB:=BX.lt
 clear BX
 go_wp2_with fail
 refine Calls.mono KC.out ?_
 rintro e w3 ⟨L,kf,rfl,⟨hl,IN,hkf⟩,M3,hp3,hk3,ho3⟩
 have B3:Hid (Blk w3 B [pp rb,pp b,pp tb,.int .i64 0] 27):=BB.out.kx hk3 XB.out.1
 have K3:Hid (Kx X w2 w3/\kf<1048576):=⟨hk3,by have:=P0.out.so.frb kf (IN.2 kf hkf);omega⟩
 have N3:Hid (Nums (pm0 rb b tb 20) _ 0 (20-L.length) (0+L.length) (19-L.length)):=N0.out.take P0.out.so IN M3 (0+5000)
 obtain ⟨s3,hs3⟩: ∃ s3:Ps,s3={ takeS (ps0 (from1 20) 20) 0 L with M:=M3,q:=0+5000 }:=⟨_,rfl⟩
 have P3:Hid (Pu X w3 (pm0 rb b tb 20) s3/\s3.q=5000):=by rw [hs3];exact ⟨hp3,rfl⟩
 have N3':Hid (Nums (pm0 rb b tb 20) s3 0 18 2 17):=by have q:=N3.out;rw [<- hs3,hl] at q;exact q
 clear hs3 hl IN hkf hp3 hk3 ho3 BB N0 P0 N3
 have BB:=B3
 clear B3
 clear c0 c1 c2 c3 lB KC
 have RC:Hid (Calls Tryd.prog 13 #[.agg #[pp rb,pp b,pp tb,.int .i64 0],.int .i64 kf] w3 fun e w'=> ∃ root:Nat,e=.returned (.tuple #[.int .i64 root,.int .i64 0])/\Rooted X w3 (pm0 rb b tb 20) s3 0 root w'):=root_ok P3.out.1 0 (N3'.out.box (by omega)) (by rw [P3.out.2];omega) (by rw [N3'.out.room];omega) kf K3.out.2
 have BX:=BB.out
 have c0:w3.cell? ⟨B,0,none⟩=some (pp rb):=BX.cell 0
 have c1:w3.cell? ⟨B,1,none⟩=some (pp b):=BX.cell 1
 have c2:w3.cell? ⟨B,2,none⟩=some (pp tb):=BX.cell 2
 have c3:w3.cell? ⟨B,3,none⟩=some (.int .i64 0):=BX.cell 3
 have lB:=BX.lt
 clear BX
 go_wp2_with fail
 refine Calls.mono RC.out ?_
 rintro e w4 ⟨root,rfl,M4,hF,hp4,hk4,hz4,_⟩
 have B4:Hid (Blk w4 B [pp rb,pp b,pp tb,.int .i64 0] 27):=BB.out.kx hk4 XB.out.1
 have K4:Hid (Kx X w2 w4):=K3.out.1.trans hk4
 have IN4:InL s3 [root]:=⟨by simp,fun p hp=>by simp at hp;subst hp;exact hF⟩
 have N4:Hid (Nums (pm0 rb b tb 20) _ 0 (18-([root]:List Nat).length) (2+([root]:List Nat).length) (17-([root]:List Nat).length)):=N3'.out.take P3.out.1.so IN4 M4 (s3.q+2)
 have R4:Hid (Rt (pm0 rb b tb 20) _ root (tab1 root) (fun _=>none)):=rt_root (k:=0) (q:=s3.q+2) P3.out.1.so hF hz4
 obtain ⟨s4,hs4⟩: ∃ s4:Ps,s4={ takeS s3 0 [root] with M:=M4,q:=s3.q+2 }:=⟨_,rfl⟩
 have P4:Hid (Pu X w4 (pm0 rb b tb 20) s4/\s4.q=5002/\Nums (pm0 rb b tb 20) s4 0 17 3 16/\Rt (pm0 rb b tb 20) s4 root (tab1 root) (fun _=>none)):=by
  rw [hs4]
  exact ⟨hp4,by show s3.q+2=_;rw [P3.out.2],N4.out,R4.out⟩
 clear hs4 hF hp4 hk4 hz4 IN4 N4 R4 BB K3 P3 N3'
 have BB:=B4
 clear B4
 clear c0 c1 c2 c3 lB RC
 have U4:Hid (Calls Tryd.prog 17 #[.agg #[pp rb,pp b,pp tb,.int .i64 0]] w4 fun e w'=>e=.returned (.int .i64 3)/\Below w4.heap.size w4 w'):=by
  have q:=used_c P4.out.1 0
  rw [P4.out.2.2.1.get] at q
  exact q
 have BX:=BB.out
 have c0:w4.cell? ⟨B,0,none⟩=some (pp rb):=BX.cell 0
 have c1:w4.cell? ⟨B,1,none⟩=some (pp b):=BX.cell 1
 have c2:w4.cell? ⟨B,2,none⟩=some (pp tb):=BX.cell 2
 have c3:w4.cell? ⟨B,3,none⟩=some (.int .i64 0):=BX.cell 3
 have lB:=BX.lt
 clear BX
 go_wp2_with fail
 refine Calls.mono U4.out ?_
 rintro e w5 ⟨rfl,hb5⟩
 have B5:Hid (Blk w5 B [pp rb,pp b,pp tb,.int .i64 0] 27):=BB.out.below hb5
 have K5:Hid (Kx X w2 w5):=K4.out.trans (Kx.of_below P4.out.1 hb5)
 have P5:Hid (Pu X w5 (pm0 rb b tb 20) s4/\s4.q=5002/\Nums (pm0 rb b tb 20) s4 0 17 3 16/\Rt (pm0 rb b tb 20) s4 root (tab1 root) (fun _=>none)):=⟨P4.out.1.below hb5,P4.out.2⟩
 clear hb5 BB K4 P4
 have BB:=B5
 clear B5
 clear c0 c1 c2 c3 lB U4
 have MC:Hid (Calls Tryd.prog 26 #[.agg #[pp rb,pp b,pp tb,.int .i64 0],.int .i64 root,.int .i64 0,.int .i64 5,.agg #[.bool false,.bool true,.bool false]] w5 fun e w'=>e=.returned (.int .i64 0)/\Mapped X w5 (pm0 rb b tb 20) s4 0 root (tab1 root) (fun _=>none) 0 ⟨5,false,true,false⟩ w'):=map_ok P5.out.1 P5.out.2.2.2 0 (P5.out.2.2.1.box (by omega)) 0 (by omega) 5 ⟨by omega,by omega⟩ false true false rfl (by rw [P5.out.2.1];omega) (by rw [miss_root,P5.out.2.2.1.room];show (3:Int)<=17;omega)
 have BX:=BB.out
 have c0:w5.cell? ⟨B,0,none⟩=some (pp rb):=BX.cell 0
 have c1:w5.cell? ⟨B,1,none⟩=some (pp b):=BX.cell 1
 have c2:w5.cell? ⟨B,2,none⟩=some (pp tb):=BX.cell 2
 have c3:w5.cell? ⟨B,3,none⟩=some (.int .i64 0):=BX.cell 3
 have lB:=BX.lt
 clear BX
 go_wp2_with fail
 refine Calls.mono MC.out ?_
 rintro e w6 ⟨rfl,Lm,M6,tab6,hl6,IN6,hp6,hk6,pw6,fu6,new6,_⟩
 have B6:Hid (Blk w6 B [pp rb,pp b,pp tb,.int .i64 0] 27):=BB.out.kx hk6 XB.out.1
 have K6:Hid (Kx X w2 w6):=K5.out.trans hk6
 have N6:Hid (Nums (pm0 rb b tb 20) _ 0 (17-Lm.length) (3+Lm.length) (16-Lm.length)):=P5.out.2.2.1.take P5.out.1.so IN6 M6 (s4.q+10)
 have R6:Hid (Rt (pm0 rb b tb 20) _ root tab6 _):=rt_mapped (k:=0) (q:=s4.q+10) P5.out.1.so P5.out.2.2.2 IN6 pw6 fu6 new6
 have l3:Lm.length=3:=by rw [hl6,miss_root]
 obtain ⟨s6,hs6⟩: ∃ s6:Ps,s6={ takeS s4 0 Lm with M:=M6,q:=s4.q+10 }:=⟨_,rfl⟩
 have P6:Hid (Pu X w6 (pm0 rb b tb 20) s6/\Nums (pm0 rb b tb 20) s6 0 14 6 13/\Rt (pm0 rb b tb 20) s6 root tab6 (lfSet (fun _=>none) 0 (some ⟨5,false,true,false⟩))):=by
  have q:=N6.out
  rw [l3] at q
  rw [hs6]
  exact ⟨hp6,q,R6.out⟩
 clear hs6 hl6 IN6 hp6 hk6 pw6 fu6 new6 N6 R6 l3 BB K5 P5
 have BB:=B6
 clear B6
 clear c0 c1 c2 c3 lB MC
 have U6:Hid (Calls Tryd.prog 17 #[.agg #[pp rb,pp b,pp tb,.int .i64 0]] w6 fun e w'=>e=.returned (.int .i64 6)/\Below w6.heap.size w6 w'):=by
  have q:=used_c P6.out.1 0
  rw [P6.out.2.1.get] at q
  exact q
 have BX:=BB.out
 have c0:w6.cell? ⟨B,0,none⟩=some (pp rb):=BX.cell 0
 have c1:w6.cell? ⟨B,1,none⟩=some (pp b):=BX.cell 1
 have c2:w6.cell? ⟨B,2,none⟩=some (pp tb):=BX.cell 2
 have c3:w6.cell? ⟨B,3,none⟩=some (.int .i64 0):=BX.cell 3
 have lB:=BX.lt
 clear BX
 go_wp2_with fail
 refine Calls.mono U6.out ?_
 rintro e w7 ⟨rfl,hb7⟩
 have B7:Hid (Blk w7 B [pp rb,pp b,pp tb,.int .i64 0] 27):=BB.out.below hb7
 have K7:Hid (Kx X w2 w7):=K6.out.trans (Kx.of_below P6.out.1 hb7)
 have P7:Hid (Pu X w7 (pm0 rb b tb 20) s6/\Rt (pm0 rb b tb 20) s6 root tab6 (lfSet (fun _=>none) 0 (some ⟨5,false,true,false⟩))):=⟨P6.out.1.below hb7,P6.out.2.2⟩
 clear hb7 BB K6 P6
 have BB:=B7
 clear B7
 clear c0 c1 c2 c3 lB U6
 have QC:Hid (Calls Tryd.prog 28 #[.agg #[pp rb,pp b,pp tb,.int .i64 0],.int .i64 root,.int .i64 0] w7 fun e w'=>e=.returned (.tuple #[.int .i64 5,.agg #[.bool false,.bool true,.bool false],.bool true])/\Below w7.heap.size w7 w'):=by
  have q:=query_any P7.out.1 P7.out.2 0 0
  rw [lf_same] at q
  exact q
 have BX:=BB.out
 have c0:w7.cell? ⟨B,0,none⟩=some (pp rb):=BX.cell 0
 have c1:w7.cell? ⟨B,1,none⟩=some (pp b):=BX.cell 1
 have c2:w7.cell? ⟨B,2,none⟩=some (pp tb):=BX.cell 2
 have c3:w7.cell? ⟨B,3,none⟩=some (.int .i64 0):=BX.cell 3
 have lB:=BX.lt
 clear BX
 go_wp2_with fail
 refine Calls.mono QC.out ?_
 rintro e w8 ⟨rfl,hb8⟩
 have K8:Hid (Below W.heap.size W w8):=by
  have k:=K7.out.trans (Kx.of_below P7.out.1 hb8)
  exact XB.out.2.2.trans ⟨k.os,k.tape,k.output,k.size,fun j hj=>k.block j (XB.out.2.1 j hj)⟩
 clear hb8 BB K7 P7
 clear c0 c1 c2 c3 lB QC
 have eq:=eqPerm1
 go_wp2_with fail
 go_ret
 exact ⟨rfl,below_new K8.out _⟩
end Go.Proofs.YtkiclbnbnjbcaaaDoor.Tt
namespace Go.Proofs.YtkiclbnbnjbcaaaDoor.Tt
open Go.ChangeShapes Go.WideShapes Go.ChangeAt Go.RowKit Go.Maps
set_option linter.unusedSimpArgs false
set_option linter.unusedVariables false
set_option maxRecDepth 8000
def KT (L:List Nat) (kf st:Nat) (M0 M:Int->Int):Prop:= ∃ z:Nat,L=[kf,z]/\(∀ f:Nat,f∉L-> ∀ j:Nat,j<512->En M f j=En M0 f j)/\(∀ j:Nat,j<512->En M kf j=if 1<=st/\j=0 then packV true true false false false false false false (z:Nat) else 0)/\ ∀ j:Nat,j<512->En M z j=if 2<=st/\j=0 then packV true true false false false true true true 0 else 0
theorem kt_zero (M0:Int->Int) (L:List Nat) (kf:Nat) (hl:L.length=2) (hk:L[0]'(by omega)=kf):KT L kf (2*0) M0 (zeroL M0 L):=by
 obtain ⟨x,y,e⟩: ∃ x y,L=[x,y]:=by
  match L,hl with
  | [x, y], _ => exact ⟨x, y, rfl⟩
 subst e
 have hx:x=kf:=hk
 subst hx
 refine ⟨y,rfl,fun f hf j hj=>zeroL_other _ hf j hj,fun j hj=> ?_,fun j hj=> ?_⟩
 . rw [zeroL_in _ (by simp) j hj,if_neg (by omega)]
 . rw [zeroL_in _ (by simp) j hj,if_neg (by omega)]
theorem kt_list {L:List Nat} {kf st z:Nat} {M0 M:Int->Int} (h:KT L kf st M0 M) (hz:L[1]? =some z):L=[kf,z]:=by
 obtain ⟨y,e,_⟩:=h
 subst e
 have:y=z:=by simpa using hz
 rw [this]
theorem kt_one {L:List Nat} {kf z:Nat} {M0 M:Int->Int} (h:KT L kf (2*0) M0 M) (nd:L.Nodup) (hz:L[1]? =some z) (z6:z<1048576):KT L kf 1 M0 (enSet M kf (0:Nat) (packV true true false false false false false false (z:Nat))):=by
 have e:=kt_list h hz
 obtain ⟨y,e',q1,q2,q3⟩:=h
 rw [e] at e'
 have:z=y:=by simpa using e'
 subst this
 subst e
 have ne:kf≠z:=fun q=>by rw [q] at nd;simp at nd
 have bd:=pack_bd true true false false false false false false (z:Int) (by omega) (by omega)
 refine ⟨z,rfl,fun f hf j hj=> ?_,fun j hj=> ?_,fun j hj=> ?_⟩
 . rw [<- q1 f hf j hj]
   exact en_o M _ (i:=0) (by omega) hj (fun e=>hf (by rw [e.1];simp))
 . by_cases c:j=0
   . subst c
     rw [if_pos ⟨by omega,rfl⟩]
     exact en_same M _ _ _ bd.1 bd.2
   . rw [if_neg (by omega),en_o M _ (i:=0) (by omega) hj (fun e=>c e.2),q2 j hj,if_neg (by omega)]
 . rw [en_o M _ (i:=0) (by omega) hj (fun e=>ne e.1.symm),q3 j hj,if_neg (by omega),if_neg (by omega)]
theorem kt_two {L:List Nat} {kf z:Nat} {M0 M:Int->Int} (h:KT L kf (1+0) M0 M) (nd:L.Nodup) (hz:L=[kf,z]):KT L kf (1+(0+1)) M0 (enSet M (z:Nat) (0:Nat) (packV true true false false false true true true (((0:Nat):Int)*262144+((0:Nat):Int)*512))):=by
 obtain ⟨y,e',q1,q2,q3⟩:=h
 rw [hz] at e'
 have:z=y:=by simpa using e'
 subst this
 subst hz
 have ne:kf≠z:=fun q=>by rw [q] at nd;simp at nd
 have z0:(((0:Nat):Int)*262144+((0:Nat):Int)*512)=0:=by omega
 rw [z0]
 have bd:=pack_bd true true false false false true true true 0 (by omega) (by omega)
 refine ⟨z,rfl,fun f hf j hj=> ?_,fun j hj=> ?_,fun j hj=> ?_⟩
 . rw [<- q1 f hf j hj]
   exact en_o M _ (i:=0) (by omega) hj (fun e=>hf (by rw [e.1];simp))
 . rw [en_o M _ (i:=0) (by omega) hj (fun e=>ne e.1),q2 j hj]
   by_cases c:j=0
   . rw [if_pos ⟨by omega,c⟩,if_pos ⟨by omega,c⟩]
   . rw [if_neg (by omega),if_neg (by omega)]
 . by_cases c:j=0
   . subst c
     rw [if_pos ⟨by omega,rfl⟩]
     exact en_same M _ _ _ bd.1 bd.2
   . rw [if_neg (by omega),en_o M _ (i:=0) (by omega) hj (fun e=>c e.2),q3 j hj,if_neg (by omega)]
set_option maxHeartbeats 4000000 in
theorem kernel_small {X:Nat->Prop} {W:World} {m:Pm} {s:Ps} (h:Pu X W m s) (hF:1<=m.F) (h5:m.F<=512) (k:Nat) (b:Box m s k) (hq:s.q<4000000000000000000) (hr:1+(m.F+262143) / 262144<=(s.T k).room) :
 Calls Tryd.prog 11 #[pv m k] W fun e w'=> ∃ (kf z:Nat),e=.returned (.tuple #[.int .i64 kf,.int .i64 0])/\InL s [kf,z]/\ ∃ M':Int->Int,Pu X w' m { takeS s k [kf,z] with M:=M',q:=s.q+5000 }/\Kx X W w'/\KT [kf,z] kf 2 s.M M':=by
 have HB:Hid (Below W.heap.size W (W.alloc (.cells #[pp m.rb,pp m.b,pp m.tb,.int .i64 k] 27))):=Go.Joins.below_alloc1 _ _
 have BA:Hid (Blk (W.alloc (.cells #[pp m.rb,pp m.b,pp m.tb,.int .i64 k] 27)) W.heap.size [pp m.rb,pp m.b,pp m.tb,.int .i64 k] 27):=Blk.made W [pp m.rb,pp m.b,pp m.tb,.int .i64 k] 27
 have FC:Hid (∀ w:World,Below W.heap.size W w->Calls Tryd.prog 32 #[pp m.rb] w fun e w'=>e=.returned (.int .i64 m.F)/\w'=w):=fun w hb=>frames_c (h.below hb)
 have f0:1<=m.F:=hF
 have f1:m.F<=1000000:=h.so.F1
 have f5:m.F<=512:=h5
 obtain ⟨nt,hnt⟩: ∃ nt:Nat,(nt:Int)=1+(m.F+262143) / 262144:=⟨(1+(m.F+262143) / 262144).toNat,by omega⟩
 have nt5:nt<=5:=by omega
 have nt1:2<=nt:=by omega
 have NT2:Hid (nt=2):=by show nt=2;omega
 obtain ⟨F,hFF⟩: ∃ F,F=m.F:=⟨_,rfl⟩
 rw [<- hFF] at FC f0 f1 f5 hnt
 have w1:IntKind.i64.wrap (F+262144)=F+262144:=by simp only [IntKind.wrap_i64];omega
 have w2:IntKind.i64.wrap (F+262144-1)=F+262144-1:=by simp only [IntKind.wrap_i64];omega
 have w3:(F+262144-1).tdiv 262144=(nt:Int)-1:=by rw [Int.tdiv_eq_ediv_of_nonneg (by omega)];omega
 have w4:IntKind.i64.wrap ((nt:Int)-1)=(nt:Int)-1:=by simp only [IntKind.wrap_i64];omega
 have w5:IntKind.i64.wrap (1+((nt:Int)-1))=(nt:Int):=by simp only [IntKind.wrap_i64];omega
 have w6:1+((nt:Int)-1)=(nt:Int):=by omega
 have TC:Hid (Calls Tryd.prog 33 #[pv m k,.int .i64 nt] (W.alloc (.cells #[pp m.rb,pp m.b,pp m.tb,.int .i64 k] 27)) fun e w'=> ∃ (L:List Nat) (g c:Nat),e=.returned (.tuple #[.slice (some ⟨g,0,none⟩) nt c,.int .i64 0])/\L.length=nt/\InL s L/\nt<=c/\TI X W W.heap.size m k { takeS s k L with M:=zeroL s.M L } L (.slice (some ⟨g,0,none⟩) nt c) w'):=by
  refine (takeall_ok (h.grow HB.out) k b nt (by omega) (by omega)).mono ?_
  rintro e w' ⟨L,v,he,hl,IN,hp,ho,hk⟩
  obtain ⟨pf,cf,hv,lc,_⟩:=(Li.ol_ll Li.eI_len ho).form
  rw [List.length_map,hl] at hv lc
  subst hv
  obtain ⟨g,rfl,lg,_⟩:=ii_read ho 0 (by omega)
  have bl:=(Li.row_lt ho g rfl).1
  have s1:(W.alloc (.cells #[pp m.rb,pp m.b,pp m.tb,.int .i64 k] 27)).heap.size=W.heap.size+1:=World.size_alloc _ _
  refine ⟨L,g,cf,he,hl,IN,lc,⟨hp.less (fun j hj=> ?_) (Or.inl h.x0),BA.out.kx hk (Or.inr ⟨Nat.le_refl _,by omega⟩),Li.row_weak ho HB.out.size,kx_of h HB.out hk,?_,h.tab.1,h.x0,h.lt⟩⟩
  . rcases hj with x | x | x
    . exact Or.inl (Or.inl x)
    . exact Or.inl (Or.inr ⟨by omega,by omega⟩)
    . exact Or.inr x
  . intro e;have e':some g=some W.heap.size:=e;cases e';omega
 have HFR:Hid (∀ L:List Nat,InL s L-> ∀ x∈L,m.has (x:Nat)=true/\x<1000000):=fun L IN x hx=>⟨h.so.fh x (IN.2 x hx),h.so.frb x (IN.2 x hx)⟩
 have HQ:Hid (s.q<4000000000000000000):=hq
 clear b hr hq
 have HNT:Hid ((nt:Int)=1+(F+262143) / 262144/\F=m.F):=⟨hnt,hFF⟩
 clear h hnt hFF
 go_enter Tryd.func11,Tryd.ntmps11
 go_upto_region 1 with fail
 generalize (W.alloc (.cells #[pp m.rb,pp m.b,pp m.tb,.int .i64 k] 27))=W1 at HB BA TC |-
 obtain ⟨A,hA⟩: ∃ A,W.heap.size=A:=⟨_,rfl⟩
 have HA:Hid (A=W.heap.size):=hA.symm
 rw [hA] at BA |-
 clear hA
 have BX:=BA.out
 have c0:W1.cell? ⟨A,0,none⟩=some (pp m.rb):=BX.cell 0
 have c1:W1.cell? ⟨A,1,none⟩=some (pp m.b):=BX.cell 1
 have c2:W1.cell? ⟨A,2,none⟩=some (pp m.tb):=BX.cell 2
 have c3:W1.cell? ⟨A,3,none⟩=some (.int .i64 k):=BX.cell 3
 have lA:=BX.lt
 clear BX
 go_wp2_with fail
 refine Calls.mono (FC.out W1 HB.out) ?_
 rintro e w0 ⟨rfl,rfl⟩
 go_wp2_with fail
 refine Calls.mono TC.out ?_
 rintro e w4' ⟨L,g,c,rfl,hl,IN0,lc,TI0⟩
 have HI:Hid (L.length=nt/\InL s L):=⟨hl,IN0⟩
 obtain ⟨g',e',lg,hc0⟩:=ii_read TI0.own 0 (by omega)
 cases e'
 obtain ⟨kf,hkf⟩: ∃ kf:Nat,L[0]'(by omega)=kf:=⟨_,rfl⟩
 rw [hkf] at hc0
 have HK:Hid (kf∈L/\m.has (kf:Nat)=true):=by rw [<- hkf];exact ⟨List.getElem_mem _,(HFR.out L IN0 _ (List.getElem_mem _)).1⟩
 have T0:Hid (TI X W A m k { takeS s k L with M:=zeroL s.M L,q:=s.q+2*0 } L (.slice (some ⟨g,0,none⟩) nt c) w4'):=by rw [HA.out];exact TI0
 have OT0:Hid (KT L kf (2*0) s.M (zeroL s.M L)):=kt_zero s.M L kf (hl.trans NT2.out) hkf
 clear TI0 hl IN0 hkf TC FC HB BA c0 c1 c2 c3 lA w1 w2 w3 w4 w5 w6
 have d1:((nt:Int) != 0)=true:=by simp;omega
 have d2:decide ((1:Int)<=(nt:Int))=true:=by simp;omega
 have d3:decide ((0:Int)<(nt:Int))=true:=by simp;omega
 have d4: ¬ (nt:Int)<1:=by omega
 have d5: ¬ (nt:Int)<0:=by omega
 have d6:decide ((nt:Int)<=(c:Int))=true:=by simp;omega
 have d7: ¬ nt=1:=by omega
 have d8: ¬ c=1:=by omega
 have d9: ¬ c-1=0:=by omega
 have d10: ¬ c<=1:=by omega
 have d11:1<c:=by omega
 go_upto_region 7 with fail
 obtain ⟨n1,hn1⟩: ∃ n1,nt=n1+1:=⟨nt-1,by omega⟩
 rw [show nt-1=n1 by omega]
 generalize c-1=c1
 have HN1:Hid (nt=n1+1):=hn1
 have n14:n1<=4:=by omega
 clear d1 d2 d3 d4 d5 d6 d7 d8 d9 d10 d11 hc0 lg hn1
 go_loopw [8,9,10,11,34,45] (fun _ _ _ _ va _ w=> ∃ (a:Nat) (M:Int->Int),a<=n1/\va=.int .i64 a/\Hid (TI X W A m k { takeS s k L with M:=M,q:=s.q+1100*a } L (.slice (some ⟨g,0,none⟩) nt c) w)/\Hid (KT L kf (2*a) s.M M)) (fun _ _ _ _ va _ _=>n1-(Go.RowKit.intOf va).toNat)
 case atStart=>exact ⟨0,_,by omega,rfl,T0,OT0⟩
 case round =>
  clear T0 OT0
  obtain ⟨a,M,ha,rfl,TIa,OTa⟩:=hrel
  by_cases ca:a<n1
  rotate_left
  . obtain rfl:a=n1:=by omega
    have d1:decide ((a:Int)<(a:Int))=false:=by simp
    go_wp2_with fail
    go_returns
    have a1:2*a=2:=by have:=HN1.out;have:=NT2.out;omega
    have K2:=OTa.out
    rw [a1] at K2
    obtain ⟨z,eL,q1,q2,q3⟩:=K2
    have IN2:=HI.out.2
    have TP:=TIa.out.pu.less (X':=X) (fun j hj=>Or.inl hj) TIa.out.x0
    have TK:=TIa.out.kx
    clear TIa OTa HI HK HFR
    subst eL
    refine ⟨kf,rfl,z,IN2,M,?_,TK,⟨z,rfl,q1,q2,q3⟩⟩
    exact TP.q (by show s.q+1100*a<=s.q+5000;omega)
  have d1:decide ((a:Int)<(n1:Int))=true:=by simp;omega
  have d2:decide ((a:Int)<0)=false:=by simp
  have aL:a+1<L.length:=by have:=HI.out.1;have:=HN1.out;omega
  obtain ⟨g',e',lg,hc⟩:=ii_read TIa.out.own (a+1) aL
  cases e'
  obtain ⟨z,hz⟩: ∃ z:Nat,L[a+1]=z:=⟨_,rfl⟩
  rw [hz] at hc
  rw [Nat.add_comm a 1] at hc
  have HZ:Hid (z∈L/\m.has (z:Nat)=true/\z<1000000):=by
   have zm:z∈L:=by rw [<- hz];exact List.getElem_mem _
   exact ⟨zm,HFR.out L HI.out.2 z zm⟩
  have a9:(a:Int)<512:=by omega
  have SC:Hid (Calls Tryd.prog 34 #[pv m k,.int .i64 kf,.int .i64 a,ev true true false false false false false false (z:Nat)] wr fun e w'=>e=.returned (.tuple #[])/\TI X W A m k { takeS s k L with M:=enSet M kf a (packV true true false false false false false false (z:Nat)),q:=s.q+1100*a+2+2*0 } L (.slice (some ⟨g,0,none⟩) nt c) w'):=by
   refine (set_any TIa.out.pu (by have:=HQ.out;show s.q+1100*a<_;omega) k kf a HK.out.2 (by omega) a9 true true false false false false false false (z:Nat) (by omega) (by have:=HZ.out.2.2;omega)).mono ?_
   rintro e w' ⟨he,hp,hk⟩
   exact ⟨he,TIa.out.step hp hk⟩
  have A0:Hid (a=0):=by have:=HN1.out;have:=NT2.out;show a=0;omega
  have HL1:L[1]? =some z:=by
   rw [<- hz]
   have e1:a+1=1:=by have:=A0.out;omega
   rw [List.getElem?_eq_getElem (by have:=A0.out;omega)]
   congr 1
   simp only [e1]
  have OT1:Hid (KT L kf 1 s.M (enSet M kf a (packV true true false false false false false false (z:Nat)))):=by
   have K0:=OTa.out
   have a0:=A0.out
   rw [a0] at K0 |-
   exact kt_one K0 HI.out.2.1 HL1 (by have:=HZ.out.2.2;omega)
  have HZ1:Hid (L=[kf,z]):=kt_list OTa.out HL1
  clear HL1
  generalize enSet M kf a (packV true true false false false false false false (z:Nat))=M1 at SC OT1
  have BX:=TIa.out.box
  have c0:wr.cell? ⟨A,0,none⟩=some (pp m.rb):=BX.cell 0
  have c1':wr.cell? ⟨A,1,none⟩=some (pp m.b):=BX.cell 1
  have c2:wr.cell? ⟨A,2,none⟩=some (pp m.tb):=BX.cell 2
  have c3:wr.cell? ⟨A,3,none⟩=some (.int .i64 k):=BX.cell 3
  have lA:=BX.lt
  clear BX TIa OTa hz aL
  go_wp2_with fail
  refine Calls.mono SC.out ?_
  rintro e w5 ⟨rfl,hT5⟩
  have TI1:Hid (TI X W A m k { takeS s k L with M:=M1,q:=s.q+1100*a+2+2*0 } L (.slice (some ⟨g,0,none⟩) nt c) w5):=hT5
  clear hT5 SC c0 c1' c2 c3 lA lg hc
  go_wp2_with fail
  go_loopw [10,11,45] (fun _ _ vi w=> ∃ (i:Nat) (M:Int->Int),i<=512/\vi=.int .i64 i/\Hid (TI X W A m k { takeS s k L with M:=M,q:=s.q+1100*a+2+2*i } L (.slice (some ⟨g,0,none⟩) nt c) w)/\Hid (i<=1/\KT L kf (1+i) s.M M)) (fun _ _ vi _=>512-(Go.RowKit.intOf vi).toNat)
  case atStart=>exact ⟨0,M1,by omega,rfl,TI1,⟨by omega,OT1.out⟩⟩
  case round =>
   clear TI1 OT1
   obtain ⟨i,M,hi,rfl,TIi,OTi⟩:=hrel
   by_cases ci:i<512
   rotate_left
   . exact absurd OTi.out.1 (by omega)
   have d3:decide ((i:Int)<512)=true:=by simp;omega
   have w1:IntKind.i64.wrap ((a:Int)*262144)=(a:Int)*262144:=by simp only [IntKind.wrap_i64];omega
   have w2:IntKind.i64.wrap ((i:Int)*512)=(i:Int)*512:=by simp only [IntKind.wrap_i64];omega
   have w3:IntKind.i64.wrap ((a:Int)*262144+(i:Int)*512)=(a:Int)*262144+(i:Int)*512:=by simp only [IntKind.wrap_i64];omega
   by_cases cf:F<=(a:Int)*262144+(i:Int)*512
   . have d4:decide (F<=(a:Int)*262144+(i:Int)*512)=true:=by simp [cf]
     have TI2:Hid (TI X W A m k { takeS s k L with M:=M,q:=s.q+1100*(a+1) } L (.slice (some ⟨g,0,none⟩) nt c) wr):=TIi.out.q (by show s.q+1100*a+2+2*i<=_;omega)
     clear TIi
     go_wp2_with fail
     go_roundw
     case rel =>
      have K2:KT L kf (2*(a+1)) s.M M:=by
       have q:=OTi.out
       have a0:=A0.out
       have i1:i=1:=by rw [a0] at cf;omega
       rw [i1] at q
       rw [a0]
       exact q.2
      exact ⟨a+1,M,by omega,by go_num,TI2,K2⟩
     case measure=>simp [Go.RowKit.intOf];omega
   have d4:decide (F<=(a:Int)*262144+(i:Int)*512)=false:=by simp;omega
   have SC:Hid (Calls Tryd.prog 34 #[pv m k,.int .i64 (z:Nat),.int .i64 i,ev true true false false false true true true ((a:Int)*262144+(i:Int)*512)] wr fun e w'=>e=.returned (.tuple #[])/\TI X W A m k { takeS s k L with M:=enSet M (z:Nat) i (packV true true false false false true true true ((a:Int)*262144+(i:Int)*512)),q:=s.q+1100*a+2+2*(i+1) } L (.slice (some ⟨g,0,none⟩) nt c) w'):=by
    refine (set_any TIi.out.pu (by have:=HQ.out;show s.q+1100*a+2+2*i<_;omega) k (z:Nat) i HZ.out.2.1 (by omega) (by omega) true true false false false true true true ((a:Int)*262144+(i:Int)*512) (by omega) (by omega)).mono ?_
    rintro e w' ⟨he,hp,hk⟩
    exact ⟨he,TIi.out.step hp hk⟩
   have OT2:Hid (KT L kf (1+(i+1)) s.M (enSet M (z:Nat) i (packV true true false false false true true true ((a:Int)*262144+(i:Int)*512)))):=by
    have K1:=OTi.out.2
    have a0:=A0.out
    have i0:i=0:=by have:=OTi.out.1;rw [a0] at cf;omega
    rw [i0] at K1 |-
    rw [a0]
    exact kt_two K1 HI.out.2.1 HZ1.out
   generalize enSet M (z:Nat) i (packV true true false false false true true true ((a:Int)*262144+(i:Int)*512))=M2 at SC OT2
   have BX:=TIi.out.box
   have c0:wr.cell? ⟨A,0,none⟩=some (pp m.rb):=BX.cell 0
   have c1':wr.cell? ⟨A,1,none⟩=some (pp m.b):=BX.cell 1
   have c2:wr.cell? ⟨A,2,none⟩=some (pp m.tb):=BX.cell 2
   have c3:wr.cell? ⟨A,3,none⟩=some (.int .i64 k):=BX.cell 3
   have lA:=BX.lt
   clear BX TIi OTi
   go_wp2_with fail
   refine Calls.mono SC.out ?_
   rintro e w6 ⟨rfl,hT6⟩
   have TI3:Hid (TI X W A m k { takeS s k L with M:=M2,q:=s.q+1100*a+2+2*(i+1) } L (.slice (some ⟨g,0,none⟩) nt c) w6):=hT6
   clear hT6 SC c0 c1' c2 c3 lA
   go_wp2_with fail
   go_roundw
   case rel=>exact ⟨i+1,M2,by omega,by go_num,TI3,⟨by omega,OT2.out⟩⟩
   case measure=>simp [Go.RowKit.intOf];omega
end Go.Proofs.YtkiclbnbnjbcaaaDoor.Tt
namespace Go.Proofs.YtkiclbnbnjbcaaaDoor.Tt
open Go.ChangeShapes Go.WideShapes Go.ChangeAt Go.RowKit Go.Maps
set_option linter.unusedSimpArgs false
set_option linter.unusedVariables false
set_option maxRecDepth 8000
def Rooted2 (kf:Nat) (X:Nat->Prop) (W:World) (m:Pm) (s:Ps) (k root:Nat) (w':World):Prop :=
 ∃ M':Int->Int,s.Fr root/\Pu X w' m { takeS s k [root] with M:=M',q:=s.q+2 }/\Kx X W w'/\(∀ i:Nat,i<512->i≠256->En M' root i=0)/\(∀ f:Nat,f≠root-> ∀ j:Nat,j<512->En M' f j=En s.M f j)/\En M' root 256=packV true true false false false false false false kf
set_option maxHeartbeats 2000000 in
theorem root_small {X:Nat->Prop} {W:World} {m:Pm} {s:Ps} (h:Pu X W m s) (k:Nat) (b:Box m s k) (hq:s.q<4000000000000000000) (hr:1<=(s.T k).room) (kf:Nat) (hkf:kf<1048576) :
 Calls Tryd.prog 13 #[pv m k,.int .i64 kf] W fun e w'=> ∃ root:Nat,e=.returned (.tuple #[.int .i64 root,.int .i64 0])/\Rooted2 kf X W m s k root w':=by
 have HB:Below W.heap.size W (W.alloc (.cells #[pp m.rb,pp m.b,pp m.tb,.int .i64 k] 27)):=Go.Joins.below_alloc1 _ _
 obtain ⟨X2,hX2⟩: ∃ X2:Nat->Prop,X2=XW X W (W.alloc (.cells #[pp m.rb,pp m.b,pp m.tb,.int .i64 k] 27)):=⟨_,rfl⟩
 have xl:X2 W.heap.size:=by rw [hX2];exact xw_last X W _
 have P0:Pu X2 (W.alloc (.cells #[pp m.rb,pp m.b,pp m.tb,.int .i64 k] 27)) m s:=by rw [hX2];exact h.grow HB
 have BA:Blk (W.alloc (.cells #[pp m.rb,pp m.b,pp m.tb,.int .i64 k] 27)) W.heap.size [pp m.rb,pp m.b,pp m.tb,.int .i64 k] 27:=Blk.made W [pp m.rb,pp m.b,pp m.tb,.int .i64 k] 27
 have TC:Hid (Calls Tryd.prog 38 #[pv m k] (W.alloc (.cells #[pp m.rb,pp m.b,pp m.tb,.int .i64 k] 27)) fun e w'=> ∃ p:Nat,e=.returned (.tuple #[.int .i64 p,.int .i64 0])/\s.Fr p/\Pu X2 w' m { takeS s k [p] with M:=mzero s.M p }/\Kx X2 (W.alloc (.cells #[pp m.rb,pp m.b,pp m.tb,.int .i64 k] 27)) w'/\Blk w' W.heap.size [pp m.rb,pp m.b,pp m.tb,.int .i64 k] 27):=by
  refine (take_ok P0 k b hr).mono ?_
  rintro e w' ⟨p,he,hF,hp,hk⟩
  exact ⟨p,he,hF,hp,hk,BA.kx hk xl⟩
 have SC:Hid (∀ (w:World) (p:Nat),s.Fr p->Pu X2 w m { takeS s k [p] with M:=mzero s.M p }->Kx X2 (W.alloc (.cells #[pp m.rb,pp m.b,pp m.tb,.int .i64 k] 27)) w->Calls Tryd.prog 34 #[pv m k,.int .i64 p,.int .i64 256,ev true true false false false false false false (kf:Nat)] w fun e w'=>e=.returned (.tuple #[])/\Rooted2 kf X W m s k p w'):=fun w p hF hp hk=>by
  refine (set_any hp (by show s.q<_;omega) k p 256 (h.so.fh p hF) (by omega) (by omega) true true false false false false false false (kf:Nat) (by omega) (by omega)).mono ?_
  rintro e w' ⟨he,hp2,hk2⟩
  refine ⟨he,_,hF,hp2.less (fun j hj=>by rw [hX2];exact Or.inl hj) h.x0,?_,fun i hi h6=> ?_,fun f hf j hj=> ?_,?_⟩
  . have k3:=hk.trans hk2
    rw [hX2] at k3
    exact kx_of h HB k3
  . show En (enSet (mzero s.M p) p 256 _) p i=0
    rw [en_other _ _ (by omega) (by omega) (by omega) (by omega) (Or.inr (by omega))]
    exact en_zero _ _ _ (by omega) (by omega)
  . show En (enSet (mzero s.M p) p 256 _) f j=_
    rw [en_other _ _ (by omega) (by omega) (by omega) (by omega) (Or.inl (by omega))]
    exact en_zero_other _ (by omega) (by omega) (by omega)
  . have bd:=pack_bd true true false false false false false false (kf:Int) (by omega) (by omega)
    exact en_same _ _ _ _ bd.1 bd.2
 have BX:=BA
 have c0:(W.alloc (.cells #[pp m.rb,pp m.b,pp m.tb,.int .i64 k] 27)).cell? ⟨W.heap.size,0,none⟩=some (pp m.rb):=BX.cell 0
 have c1:(W.alloc (.cells #[pp m.rb,pp m.b,pp m.tb,.int .i64 k] 27)).cell? ⟨W.heap.size,1,none⟩=some (pp m.b):=BX.cell 1
 have c2:(W.alloc (.cells #[pp m.rb,pp m.b,pp m.tb,.int .i64 k] 27)).cell? ⟨W.heap.size,2,none⟩=some (pp m.tb):=BX.cell 2
 have c3:(W.alloc (.cells #[pp m.rb,pp m.b,pp m.tb,.int .i64 k] 27)).cell? ⟨W.heap.size,3,none⟩=some (.int .i64 k):=BX.cell 3
 have HA:Hid (_):=BA
 clear h b hq hr hkf HB P0 BA BX xl hX2
 go_enter Tryd.func13,Tryd.ntmps13
 go_wp2_with fail
 refine Calls.mono TC.out ?_
 rintro e w1 ⟨p,rfl,hF,hp,hk,BX⟩
 have S1:Hid (_):=SC.out w1 p hF hp hk
 clear c0 c1 c2 c3
 have c0:w1.cell? ⟨W.heap.size,0,none⟩=some (pp m.rb):=BX.cell 0
 have c1:w1.cell? ⟨W.heap.size,1,none⟩=some (pp m.b):=BX.cell 1
 have c2:w1.cell? ⟨W.heap.size,2,none⟩=some (pp m.tb):=BX.cell 2
 have c3:w1.cell? ⟨W.heap.size,3,none⟩=some (.int .i64 k):=BX.cell 3
 have lA:=BX.lt
 clear hF hp hk BX TC SC HA
 go_wp2_with fail
 refine Calls.mono S1.out ?_
 rintro e w2 ⟨rfl,hR⟩
 have H2:Hid (Rooted2 kf X W m s k p w2):=hR
 clear hR
 go_wp2_with fail
 go_returns
 exact ⟨p,rfl,H2.out⟩
end Go.Proofs.YtkiclbnbnjbcaaaDoor.Tt
