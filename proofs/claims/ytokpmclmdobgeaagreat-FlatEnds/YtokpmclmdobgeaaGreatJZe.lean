import Derived.Test.YtokpmclmdobgeaaGreatJYe
import Derived.Test.YtokpmclmdobgeaaGreatKZe
import Derived.Test.YtokpmclmdobgeaaGreatJMe
set_option linter.unusedSimpArgs false
set_option linter.unusedVariables false
set_option maxRecDepth 8000
set_option maxHeartbeats 2000000
open Go.ChangeShapes Go.WideShapes Go.ChangeAt Go.RowKit Go.Maps
namespace Go.Proofs.YtokpmclmdobgeaaGreat.Fl
def hasR (r:Re.Rg) (pg:Int):Bool:=decide (r.fr<=pg) && decide (pg<r.tt)
theorem holds_any (r:Re.Rg) (B0:Nat) (pg:Int) (W:World) (hb:W.cell? ⟨B0,0,none⟩=some (.int .i64 pg)) (hl:B0<W.heap.size) :
 Calls Tryz.prog 115 #[r.val,pp B0] W (re (.bool (hasR r pg)) W):=by
 obtain ⟨f,t,a,b,c,k⟩:=r
 have G0:Hid (bc W (W.alloc (.cells (s7 f t a b c k) 126))/\Blk (W.alloc (.cells (s7 f t a b c k) 126)) W.heap.size (sy f t a b c k) 126):=⟨baa,Blk.made _ _ _⟩
 show Calls Tryz.prog 115 #[.agg (s7 f t a b c k),pp B0] W _
 unfold hasR
 show Calls _ _ _ _ fun e w'=>e=.returned (.bool (decide (f<=pg) && decide (pg<t)))/\_
 go_enter Tryz.func115,Tryz.ntmps115
 go_upto_region 1 with fail
 have c0:(W.alloc (.cells (s7 f t a b c k) 126)).cell? ⟨B0,0,none⟩=some (.int .i64 pg):=by rw [G0.out.1.cell (p:=⟨B0,0,none⟩) hl];exact hb
 generalize (W.alloc (.cells (s7 f t a b c k) 126))=V at G0 c0 |-
 obtain ⟨q,hq⟩: ∃ q,q=W.heap.size:=⟨_,rfl⟩
 have G1:Hid (bc W V/\Blk V q (sy f t a b c k) 126):=ki1
 rw [<- hq]
 clear hq G0 hb hl
 have x0:V.cell? ⟨q,0,none⟩=some (.int .i64 f):=G1.out.2.cell 0
 have x1:V.cell? ⟨q,1,none⟩=some (.int .i64 t):=G1.out.2.cell 1
 have HE:Hid (bc W V):=G1.out.1
 clear G1
 by_cases d:f<=pg
 . have d1:decide (f<=pg)=true:=by simp [d]
   clear d
   go_wp2_with fail
   go_returns
   exact ⟨by simp [d1],HE.out⟩
 . have d1:decide (f<=pg)=false:=by simp [d]
   clear d
   go_wp2_with fail
   go_returns
   exact ⟨by simp [d1],HE.out⟩
def IdxR (L:List Re.Rg) (pg r:Int):Prop:=(∃ i:Nat,i<L.length/\r=i/\hasR (L.getD i Re.Rg.zero) pg=true/\ ∀ j,j<i->hasR (L.getD j Re.Rg.zero) pg=false)\/(r= -1/\ ∀ j,j<L.length->hasR (L.getD j Re.Rg.zero) pg=false)
theorem index_reg (p:Option Addr) (c:Nat) (L:List Re.Rg) (hL:L.length<=100) (B0:Nat) (pg:Int) (w:World) (h:Re.IsL w 0 p L) (hb:w.cell? ⟨B0,0,none⟩=some (.int .i64 pg)) (hl:B0<w.heap.size) :
 Calls Tryz.prog 114 #[.slice p L.length c,.func (.func 115) #[] #[pp B0]] w fun e w'=>(∃ r,e=.returned (.int .i64 r)/\IdxR L pg r)/\bc w w':=by
 have HH:Hid (Re.IsL w 0 p L/\w.cell? ⟨B0,0,none⟩=some (.int .i64 pg)/\B0<w.heap.size):=⟨h,hb,hl⟩
 have HC:Hid (∀ (W:World) (r:Re.Rg),W.cell? ⟨B0,0,none⟩=some (.int .i64 pg)->B0<W.heap.size->Calls Tryz.prog 115 #[r.val,pp B0] W (re (.bool (hasR r pg)) W)):=fun W r h1 h2=>holds_any r B0 pg W h1 h2
 obtain ⟨n,hn⟩: ∃ n,n=L.length:=⟨_,rfl⟩
 have HN:Hid (n=L.length):=hn
 rw [<- hn] at hL |-
 clear h hb hl hn
 go_enter Tryz.func114,Tryz.ntmps114
 go_wp2_with fail
 go_loopw [8] (fun x W=> ∃ k:Nat,k<=n/\x=.int .i64 (k:Nat)/\Hid (bc w W/\ ∀ j,j<k->hasR (L.getD j Re.Rg.zero) pg=false)) (fun x _=>n-(intOf x).toNat)
 case atStart=>exact ⟨0,by omega,rfl,Below.refl _ _,fun j hj=>absurd hj (Nat.not_lt_zero _)⟩
 case round =>
  obtain ⟨k,hk,rfl,hst⟩:=hrel
  have ww:IntKind.i64.wrap ((k:Int)+1)=((k+1:Nat):Int):=km1
  by_cases hlt:k<n
  . have hd:decide ((k:Int)<(n:Int))=true:=by simp;omega
    obtain ⟨l,hl⟩: ∃ l,L.getD k Re.Rg.zero=l:=⟨_,rfl⟩
    have L1:Re.IsL wr 0 p L:=HH.out.1.below hst.out.1
    obtain ⟨g,rfl,_,lg,cc⟩:=L1 k (by rw [<- HN.out];exact hlt)
    rw [hl] at cc
    have c0:wr.cell? ⟨g,k*6,none⟩=some (.int .i64 l.fr):=cc 0 _ rfl
    have c1:wr.cell? ⟨g,k*6+1,none⟩=some (.int .i64 l.tt):=cc 1 _ rfl
    have c2:wr.cell? ⟨g,k*6+2,none⟩=some (.bool l.w):=cc 2 _ rfl
    have c3:wr.cell? ⟨g,k*6+3,none⟩=some (.bool l.u):=cc 3 _ rfl
    have c4:wr.cell? ⟨g,k*6+4,none⟩=some (.bool l.x):=cc 4 _ rfl
    have c5:wr.cell? ⟨g,k*6+5,none⟩=some (.int .i64 l.kd):=cc 5 _ rfl
    have HL:Hid (L.getD k Re.Rg.zero=l):=hl
    have b0:Hid (wr.cell? ⟨B0,0,none⟩=some (.int .i64 pg)/\B0<wr.heap.size):=⟨by rw [hst.out.1.cell (p:=⟨B0,0,none⟩) HH.out.2.2];exact HH.out.2.1,nla HH.out.2.2 hst.out.1.size⟩
    clear L1 cc hl lg
    go_wp2_with fail
    refine (HC.out _ l b0.out.1 b0.out.2).mono ?_
    rintro e u ⟨rfl,hb⟩
    have U3:Hid (bc w u):=below_then hst.out.1 hb
    clear hb c0 c1 c2 c3 c4 c5 b0
    cases hf:hasR l pg
    . have hf':Hid (bc w u/\ ∀ j,j<k+1->hasR (L.getD j Re.Rg.zero) pg=false):=⟨U3.out,fun j hj=>by
       rcases Nat.lt_succ_iff_lt_or_eq.1 hj with c | rfl
       . exact hst.out.2 j c
       . rw [HL.out];exact hf⟩
      go_wp2_with fail
      go_roundw
      case rel=>exact ⟨k+1,by omega,by go_num,hf'⟩
      case measure=>simp [intOf];omega
    . go_wp2_with fail
      go_ret
      exact ⟨⟨_,rfl,Or.inl ⟨k,by rw [<- HN.out];exact hlt,rfl,by rw [HL.out];exact hf,hst.out.2⟩⟩,U3.out⟩
  . obtain rfl:k=n:=by omega
    have hd:decide ((k:Int)<(k:Int))=false:=by simp
    go_wp2_with fail
    go_ret
    exact ⟨⟨_,rfl,Or.inr ⟨rfl,fun j hj=>hst.out.2 j (by rw [HN.out];exact hj)⟩⟩,hst.out.1⟩
def lendE (P:Pr) (pg:Int) (wr:Bool):Int:=if (Re.findR P.L pg).1.kd=1\/P.F pg=none then 5 else if wr=true/\(Re.findR P.L pg).1.w=false then 10 else 0
theorem lendable_any {O:Nat->Nat} {n i:Nat} {W:World} {P:Pr} (h:IsPr O n i W P) (pg:Int) (p0:0<=pg) (p1:pg<34359738368) (x:Bool) :
 Calls Tryz.prog 58 #[pp P.pb,.int .i64 pg,.bool x] W (re (.int .i64 (lendE P pg x)) W):=by
 obtain ⟨R,hR⟩: ∃ R,Re.findR P.L pg=R:=⟨_,rfl⟩
 obtain ⟨⟨rf,rt,ra,rb,rcc,rk⟩,ok⟩:=R
 have FC:Hid (∀ w:World,bc W w->Calls Tryz.prog 52 #[.slice P.rp P.L.length P.rc,.int .i64 pg] w (re (.tuple #[.agg (s7 rf rt ra rb rcc rk),.bool ok]) w)):=fun w hb=>by
  have q:=Re.find_any 0 P.rp P.rc P.L h.few pg w (h.lis.below hb)
  rw [hR] at q;exact q
 have HP:Hid (IsPr O n i W P):=h
 have c15:W.cell? ⟨P.pb,15,none⟩=some (.slice P.rp P.L.length P.rc):=h.pro.cell 15
 have HK:Hid (0<=pg/\pg<34359738368):=⟨p0,p1⟩
 have eE:lendE P pg x=if rk=1\/P.F pg=none then 5 else if x=true/\ra=false then 10 else 0:=by unfold lendE;rw [hR]
 obtain ⟨E,hE⟩: ∃ E:Int,lendE P pg x=E:=⟨_,rfl⟩
 have HQ:Hid (E=if rk=1\/P.F pg=none then 5 else if x=true/\ra=false then 10 else 0):=hE.symm.trans eE
 rw [hE]
 clear h hR eE p0 p1 hE
 go_enter Tryz.func58,Tryz.ntmps58
 go_wp2_with fail
 refine Calls.mono (FC.out _ (Below.refl _ _)) ?_
 rintro e W1 ⟨rfl,hb⟩
 have G0:Hid (bc W (W1.alloc (.cells (s7 rf rt ra rb rcc rk) 126))/\Blk (W1.alloc (.cells (s7 rf rt ra rb rcc rk) 126)) W1.heap.size (sy rf rt ra rb rcc rk) 126):=⟨below_then hb baa,Blk.made _ _ _⟩
 clear hb FC c15
 go_upto_region 2 with fail
 generalize (W1.alloc (.cells (s7 rf rt ra rb rcc rk) 126))=V at G0 |-
 obtain ⟨q,hq⟩: ∃ q,q=W1.heap.size:=⟨_,rfl⟩
 have G1:Hid (bc W V/\Blk V q (sy rf rt ra rb rcc rk) 126):=ki1
 rw [<- hq]
 clear hq G0
 have x2:V.cell? ⟨q,5,none⟩=some (.int .i64 rk):=G1.out.2.cell 5
 have x1:V.cell? ⟨q,2,none⟩=some (.bool ra):=G1.out.2.cell 2
 have c16:V.cell? ⟨P.pb,16,none⟩=some (.map (some P.lb)):=(HP.out.pro.below G1.out.1).cell 16
 have l0:=(HP.out.led.block (G1.out.1.block _ HP.out.led.lt)).look (k:=pg) (wf64 (by have:=HK.out;omega) (by have:=HK.out;omega))
 have HE:Hid (bc W V):=G1.out.1
 clear G1
 by_cases ck:rk=1
 . have d1:(rk==1)=true:=by simp [ck]
   have e:Hid (E=5):=HQ.out.trans (if_pos (Or.inl ck))
   clear ck l0
   go_wp2_with fail
   go_returns
   exact ⟨by rw [e.out];rfl,HE.out⟩
 . have d1:(rk==1)=false:=by simp [ck]
   cases hF:P.F pg with
   | none =>
    rw [hF] at l0
    have lk:(Instr.lookup 85 (.map (some P.lb)) (.int .i64 pg) false).run Tryz.prog V=.ok (.pointer none) V:=l0
    have e:Hid (E=5):=HQ.out.trans (if_pos (Or.inr hF))
    clear ck l0
    go_wp2_with fail
    go_returns
    exact ⟨by rw [e.out];rfl,HE.out⟩
   | some b =>
    rw [hF] at l0
    have lk:(Instr.lookup 85 (.map (some P.lb)) (.int .i64 pg) false).run Tryz.prog V=.ok (pp b) V:=l0
    have HQ2:Hid (E=if x=true/\ra=false then 10 else 0):=HQ.out.trans (if_neg (fun q=>q.elim ck (fun q=>by rw [hF] at q;cases q)))
    clear ck l0
    cases x
    . have e:Hid (E=0):=HQ2.out.trans (if_neg (fun q=>by cases q.1))
      go_wp2_with fail
      go_returns
      exact ⟨by rw [e.out];rfl,HE.out⟩
    . cases ra
      . have e:Hid (E=10):=HQ2.out.trans (if_pos ⟨rfl,rfl⟩)
        go_wp2_with fail
        go_returns
        exact ⟨by rw [e.out];rfl,HE.out⟩
      . have e:Hid (E=0):=HQ2.out.trans (if_neg (fun q=>by cases q.2))
        go_wp2_with fail
        go_returns
        exact ⟨by rw [e.out];rfl,HE.out⟩
section
variable {O:Nat->Nat} {n:Nat} {W:World} {M:Mb} {Q:Ca.Qu} {T:Nat->Qo.Nd} {root:Int} {I:Nat->Sh.Gr} {A:Nat->Option Pr} {B:Nat->Nat->Int}
theorem Mn.list (h:Mn O n W M Q T root I A B) {i:Nat} {P:Pr} (hi:i<16) (hA:A i=some P) {W1:World} (hb:bc W W1) {p':Option Addr} {c':Nat} {L':List Re.Rg} (hl:Re.IsL W1 W.heap.size p' L') (hc:L'.length<=c') (h1:L'.length<=100) :
 ∃ O',Mn O' n (W1.setCell ⟨P.pb,15,none⟩ (.slice p' L'.length c')) M Q T root I (setA A i (some { P with rp:=p',rc:=c',L:=L' })) B/\(∀ j,j<W.heap.size->O' j=O j)/\Ko O W (W1.setCell ⟨P.pb,15,none⟩ (.slice p' L'.length c')):=by
 have q:=h.below hb
 have r:=q.prs i P hi hA
 have hg:=grown_setCell1 W1 P.pb 15 (.slice p' L'.length c')
 have bs:=r.pro.set 15 (.slice p' L'.length c')
 generalize W1.setCell ⟨P.pb,15,none⟩ (.slice p' L'.length c')=V at hg bs |-
 obtain ⟨O',eO,nO,oO⟩: ∃ O':Nat->Nat,(∀ j,j<W.heap.size->O' j=O j)/\(∀ j,W.heap.size<=j->O' j≠0->j<W1.heap.size/\O' j=16+8*i+3)/\(∀ g,p'=some ⟨g,0,none⟩->0<L'.length->O' g=16+8*i+3):=by
  by_cases c:0<L'.length
  . obtain ⟨g,e1,l1,l2,_⟩:=hl 0 c
    refine ⟨fun j=>if j=g then 16+8*i+3 else O j,fun j hj=>if_neg (by omega),fun j hj hn=> ?_,fun g' e2 _=> ?_⟩
    . by_cases e:j=g
      . exact ⟨by omega,if_pos e⟩
      . have hn:(if j=g then 16+8*i+3 else O j)≠0:=hn
        rw [if_neg e] at hn;have:=h.lt j hn;omega
    . rw [e1] at e2;cases e2;exact if_pos rfl
  . exact ⟨O,fun _ _=>rfl,fun j hj hn=>by have:=h.lt j hn;omega,fun _ _ c'=>absurd c' c⟩
 have eo: ∀ j,O j≠0->O' j=O j:=fun j hj=>eO j (h.lt j hj)
 have lm: ∀ b,O b≠0->O b≠16+8*i->V.heap[b]? =W1.heap[b]? :=fun b hO hs=>hg.block b (nla (h.lt b hO) hb.size) (fun e=>hs (by rw [sia e];exact r.o0))
 have hs:W1.heap.size<=V.heap.size:=hg.size
 have a3:=h.o3;have b0:=r.o0;have b1:=r.o1;have b2:=r.o2
 have nine: ∀ c,O' c=9->O c=9:=fun c e=>by
  by_cases d:c<W.heap.size
  . rw [<- eO c d];exact e
  . have:=(nO c (by omega) (by omega)).2;omega
 refine ⟨O',q.one (P':={ P with rp:=p',rc:=c',L:=L' }) hi hA rfl (Nat.le_refl _) hs eo (fun j h0 _ _ hr=>lm j h0 (by omega)) (tree_block q.tre hs (lm _ (by omega) (by omega))) q.goo ⟨bs,list_block (hl.weak (Nat.zero_le _)) hs fun g eg lg hl'=> ?_,hc,h1,r.led.block (lm _ (by omega) (by omega)),r.way.block (lm _ (by omega) (by omega)),r.wbd,fun p c e=> ?_,?_,?_,?_,oO⟩ (fun c hc=> ?_) (fun j hj=> ?_),eO,(Ko.of_below hb).trans (kept_grown hg (fun j hj=>⟨ne_O (O:=O) (by have:=hj.1;omega),nla hj.2 hb.size⟩))⟩
 . obtain ⟨g',e',l1,l2,_⟩:=hl 0 hl'
   have e':p'=some ⟨g',0,none⟩:=e'
   have eg:p'=some ⟨g,0,none⟩:=eg
   rw [e'] at eg
   have gg:g=g':=by cases eg;rfl
   exact hg.block g lg (fun e=>by have:=sia e;have:=h.lt P.pb (by omega);omega)
 . have:=r.con p c e;rw [eo c (by omega)];exact this
 . show O' P.pb=_;rw [eo _ (by omega)];exact b0
 . show O' P.lb=_;rw [eo _ (by omega)];exact b1
 . show O' P.wb=_;rw [eo _ (by omega)];exact b2
 . have:=nine c hc
   exact ⟨page_block (q.pag c this).1 (lm c (by omega) (by omega)),(q.pag c this).2⟩
 . by_cases c:j<W.heap.size
   . exact nla c (Nat.le_trans hb.size hs)
   . exact nla (nO j (by omega) hj).1 hs
theorem Mn.add (h:Mn O n W M Q T root I A B) {i:Nat} {P:Pr} (hi:i<16) (hA:A i=some P) (op:Int) (k1 k2:Int) (k3 k4 k5:Bool) (ad sz x k6 k7 k8 k9:Int) (L':List Re.Rg) (hE:Re.errA (Re.addN P.L ⟨k1,k2,k3,k4,k5,0⟩) (Re.addL P.L ⟨k1,k2,k3,k4,k5,0⟩)=0) (hM:Re.outL (Re.addN P.L ⟨k1,k2,k3,k4,k5,0⟩) (Re.addL P.L ⟨k1,k2,k3,k4,k5,0⟩)=L') (h64:L'.length<=100) :
 Calls Tryz.prog 60 #[pp P.pb,.agg (sq op k1 k2 k3 k4 k5 ad sz x k6 k7 k8 k9)] W fun e w'=>e=.returned (.int .i64 0)/\ ∃ O' p' c',Mn O' n w' M Q T root I (setA A i (some { P with rp:=p',rc:=c',L:=L' })) B/\(∀ j,j<W.heap.size->O' j=O j)/\Ko O W w':=by
 have AC:Hid (∀ w:World,bc W w->Calls Tryz.prog 77 #[.slice P.rp P.L.length P.rc,.agg (s7 k1 k2 k3 k4 k5 0)] w fun e w'=> ∃ p' c',e=.returned (.tuple #[.slice p' L'.length c',.int .i64 0])/\L'.length<=c'/\Re.IsL w' w.heap.size p' L'/\bc w w'):=fun w hb=>add_new P.rp P.rc P.L ((h.prs i P hi hA).few) (h.prs i P hi hA).cap ⟨k1,k2,k3,k4,k5,0⟩ 0 L' hE hM w ((h.prs i P hi hA).lis.below hb)
 have HM:Hid (Mn O n W M Q T root I A B):=h
 have hp:=h.prs i P hi hA
 have HI:Hid (i<16/\A i=some P):=⟨hi,hA⟩
 have HP:Hid (IsPr O n i W P):=hp
 have G0:Hid (bc W (W.alloc (.cells (sq op k1 k2 k3 k4 k5 ad sz x k6 k7 k8 k9) 70))/\Blk (W.alloc (.cells (sq op k1 k2 k3 k4 k5 ad sz x k6 k7 k8 k9) 70)) W.heap.size (su op k1 k2 k3 k4 k5 ad sz x k6 k7 k8 k9) 70):=⟨baa,Blk.made _ _ _⟩
 clear h hE hM hp hA hi
 go_enter Tryz.func60,Tryz.ntmps60
 go_upto_region 1 with fail
 generalize (W.alloc (.cells (sq op k1 k2 k3 k4 k5 ad sz x k6 k7 k8 k9) 70))=W0 at G0 |-
 obtain ⟨q,hq⟩: ∃ q,q=W.heap.size:=⟨_,rfl⟩
 have G1:Hid (bc W W0/\Blk W0 q (su op k1 k2 k3 k4 k5 ad sz x k6 k7 k8 k9) 70):=ki1
 rw [<- hq]
 clear hq G0
 have BS:Hid (Blk W0 P.pb (se1 P.par P.k P.st.r0 P.st.r1 P.st.r2 P.st.r3 P.st.told P.st.en P.st.inn P.st.fa P.st.fc P.st.s0 P.st.s1 P.st.s2 P.st.s3 (.slice P.rp P.L.length P.rc) (.map (some P.lb)) (.map (some P.wb))) 88/\Blk W0 q (su op k1 k2 k3 k4 k5 ad sz x k6 k7 k8 k9) 70):=⟨HP.out.pro.below G1.out.1,G1.out.2⟩
 refine hda (fun cw=>Blk cw P.pb (se1 P.par P.k P.st.r0 P.st.r1 P.st.r2 P.st.r3 P.st.told P.st.en P.st.inn P.st.fa P.st.fc P.st.s0 P.st.s1 P.st.s2 P.st.s3 (.slice P.rp P.L.length P.rc) (.map (some P.lb)) (.map (some P.wb))) 88/\Blk cw q (su op k1 k2 k3 k4 k5 ad sz x k6 k7 k8 k9) 70) BS.out fun hHeld=> ?_
 have KU:Hid (bc W W0.drew):=below_drew G1.out.1
 clear BS
 generalize W0.drew=U at hHeld KU |-
 refine tma 0 8 rfl ?_
 try simp only [Act.put,zaa,zba,zca]
 refine tma 1 9 rfl ?_
 try simp only [Act.put,zaa,zba,zca]
 refine tma 2 10 rfl ?_
 try simp only [Act.put,zaa,zba,zca]
 refine tla 3 11 (.slice P.rp P.L.length P.rc) rfl ?_ ?_
 . intro w hSw;(try dsimp only at hSw);have r:=Blk.cell hSw.1 15;(try go_simp);(try simp [*])
 try simp only [Act.put,zaa,zba,zca]
 refine tma 4 12 rfl ?_
 try simp only [Act.put,zaa,zba,zca]
 refine tla 5 13 (.agg #[.int .i64 k1,.int .i64 k2]) rfl ?_ ?_
 . intro w hSw;(try dsimp only at hSw);have r0:=Blk.cell hSw.2 1;have r1:=Blk.cell hSw.2 2;(try go_simp);(try simp [*])
 try simp only [Act.put,zaa,zba,zca]
 refine tma 6 14 rfl ?_
 try simp only [Act.put,zaa,zba,zca]
 refine tla 7 15 (.agg (s9 k3 k4 k5)) rfl ?_ ?_
 . intro w hSw;(try dsimp only at hSw);have r0:=Blk.cell hSw.2 3;have r1:=Blk.cell hSw.2 4;have r2:=Blk.cell hSw.2 5;(try go_simp);(try simp [*])
 try simp only [Act.put,zaa,zba,zca]
 refine tma 8 16 rfl ?_
 try simp only [Act.put,zaa,zba,zca]
 refine rda 9 ⟨some 17,_,_,_,_,none⟩ rfl fun K hK=> ?_
 go_simp
 go_wp2_with (go_at_call 77;refine Calls.mono (AC.out _ KU.out) ?_;rintro e u1 ⟨p',c',rfl,hc,hi,hb1⟩)
 have KU1:Hid (bc W u1/\L'.length<=c'/\Re.IsL u1 W.heap.size p' L'):=⟨below_then KU.out hb1,hc,hi.weak KU.out.size⟩
 refine hK.out _ _ ⟨hHeld.1.below hb1,hHeld.2.below hb1⟩ ?_
 clear hK K hHeld hc hi hb1 KU
 intro hHeld
 try simp only [Act.put,zaa,zba,zca]
 refine tma 10 7 rfl ?_
 try simp only [Act.put,zaa,zba,zca]
 refine tma 11 18 rfl ?_
 try simp only [Act.put,zaa,zba,zca]
 refine tma 12 19 rfl ?_
 try simp only [Act.put,zaa,zba,zca]
 refine tma 13 5 rfl ?_
 try simp only [Act.put,zaa,zba,zca]
 refine tma 14 6 rfl ?_
 try simp only [Act.put,zaa,zba,zca]
 clear hHeld
 refine wpAnyH_done kc ?_ _
 refine NoPanic.normal ?_
 have SB1:=((HM.out.below KU1.out.1).prs i P HI.out.1 HI.out.2).pro
 have c2:u1.cell? ⟨P.pb,15,none⟩=some (.slice P.rp P.L.length P.rc):=SB1.cell 15
 have z2:u1.frozen? ⟨P.pb,15,none⟩=false:=SB1.free 15
 have HE:=HM.out.list HI.out.1 HI.out.2 KU1.out.1 KU1.out.2.2 KU1.out.2.1 h64
 have HE:Hid _:=HE
 clear SB1 KU1 AC h64
 go_wp2_with fail
 go_returns
 obtain ⟨O',hO⟩:=HE.out
 exact ⟨rfl,O',p',c',hO⟩
theorem Mn.add_no (h:Mn O n W M Q T root I A B) {i:Nat} {P:Pr} (hi:i<16) (hA:A i=some P) (op:Int) (k1 k2:Int) (k3 k4 k5:Bool) (ad sz x k6 k7 k8 k9:Int) (L':List Re.Rg) (E:Int) (E0:E≠0) (hE:Re.errA (Re.addN P.L ⟨k1,k2,k3,k4,k5,0⟩) (Re.addL P.L ⟨k1,k2,k3,k4,k5,0⟩)=E) (hM:Re.outL (Re.addN P.L ⟨k1,k2,k3,k4,k5,0⟩) (Re.addL P.L ⟨k1,k2,k3,k4,k5,0⟩)=L') :
 Calls Tryz.prog 60 #[pp P.pb,.agg (sq op k1 k2 k3 k4 k5 ad sz x k6 k7 k8 k9)] W (re (.int .i64 E) W):=by
 have AC:Hid (∀ w:World,bc W w->Calls Tryz.prog 77 #[.slice P.rp P.L.length P.rc,.agg (s7 k1 k2 k3 k4 k5 0)] w fun e w'=> ∃ p' c',e=.returned (.tuple #[.slice p' L'.length c',.int .i64 E])/\L'.length<=c'/\Re.IsL w' w.heap.size p' L'/\bc w w'):=fun w hb=>add_new P.rp P.rc P.L ((h.prs i P hi hA).few) (h.prs i P hi hA).cap ⟨k1,k2,k3,k4,k5,0⟩ E L' hE hM w ((h.prs i P hi hA).lis.below hb)
 have HM:Hid (Mn O n W M Q T root I A B):=h
 have hp:=h.prs i P hi hA
 have HI:Hid (i<16/\A i=some P):=⟨hi,hA⟩
 have HP:Hid (IsPr O n i W P):=hp
 have G0:Hid (bc W (W.alloc (.cells (sq op k1 k2 k3 k4 k5 ad sz x k6 k7 k8 k9) 70))/\Blk (W.alloc (.cells (sq op k1 k2 k3 k4 k5 ad sz x k6 k7 k8 k9) 70)) W.heap.size (su op k1 k2 k3 k4 k5 ad sz x k6 k7 k8 k9) 70):=⟨baa,Blk.made _ _ _⟩
 clear h hE hM hp hA hi
 go_enter Tryz.func60,Tryz.ntmps60
 go_upto_region 1 with fail
 generalize (W.alloc (.cells (sq op k1 k2 k3 k4 k5 ad sz x k6 k7 k8 k9) 70))=W0 at G0 |-
 obtain ⟨q,hq⟩: ∃ q,q=W.heap.size:=⟨_,rfl⟩
 have G1:Hid (bc W W0/\Blk W0 q (su op k1 k2 k3 k4 k5 ad sz x k6 k7 k8 k9) 70):=ki1
 rw [<- hq]
 clear hq G0
 have BS:Hid (Blk W0 P.pb (se1 P.par P.k P.st.r0 P.st.r1 P.st.r2 P.st.r3 P.st.told P.st.en P.st.inn P.st.fa P.st.fc P.st.s0 P.st.s1 P.st.s2 P.st.s3 (.slice P.rp P.L.length P.rc) (.map (some P.lb)) (.map (some P.wb))) 88/\Blk W0 q (su op k1 k2 k3 k4 k5 ad sz x k6 k7 k8 k9) 70):=⟨HP.out.pro.below G1.out.1,G1.out.2⟩
 refine hda (fun cw=>Blk cw P.pb (se1 P.par P.k P.st.r0 P.st.r1 P.st.r2 P.st.r3 P.st.told P.st.en P.st.inn P.st.fa P.st.fc P.st.s0 P.st.s1 P.st.s2 P.st.s3 (.slice P.rp P.L.length P.rc) (.map (some P.lb)) (.map (some P.wb))) 88/\Blk cw q (su op k1 k2 k3 k4 k5 ad sz x k6 k7 k8 k9) 70) BS.out fun hHeld=> ?_
 have KU:Hid (bc W W0.drew):=below_drew G1.out.1
 clear BS
 generalize W0.drew=U at hHeld KU |-
 refine tma 0 8 rfl ?_
 try simp only [Act.put,zaa,zba,zca]
 refine tma 1 9 rfl ?_
 try simp only [Act.put,zaa,zba,zca]
 refine tma 2 10 rfl ?_
 try simp only [Act.put,zaa,zba,zca]
 refine tla 3 11 (.slice P.rp P.L.length P.rc) rfl ?_ ?_
 . intro w hSw;(try dsimp only at hSw);have r:=Blk.cell hSw.1 15;(try go_simp);(try simp [*])
 try simp only [Act.put,zaa,zba,zca]
 refine tma 4 12 rfl ?_
 try simp only [Act.put,zaa,zba,zca]
 refine tla 5 13 (.agg #[.int .i64 k1,.int .i64 k2]) rfl ?_ ?_
 . intro w hSw;(try dsimp only at hSw);have r0:=Blk.cell hSw.2 1;have r1:=Blk.cell hSw.2 2;(try go_simp);(try simp [*])
 try simp only [Act.put,zaa,zba,zca]
 refine tma 6 14 rfl ?_
 try simp only [Act.put,zaa,zba,zca]
 refine tla 7 15 (.agg (s9 k3 k4 k5)) rfl ?_ ?_
 . intro w hSw;(try dsimp only at hSw);have r0:=Blk.cell hSw.2 3;have r1:=Blk.cell hSw.2 4;have r2:=Blk.cell hSw.2 5;(try go_simp);(try simp [*])
 try simp only [Act.put,zaa,zba,zca]
 refine tma 8 16 rfl ?_
 try simp only [Act.put,zaa,zba,zca]
 refine rda 9 ⟨some 17,_,_,_,_,none⟩ rfl fun K hK=> ?_
 go_simp
 go_wp2_with (go_at_call 77;refine Calls.mono (AC.out _ KU.out) ?_;rintro e u1 ⟨p',c',rfl,hc,hi,hb1⟩)
 have KU1:Hid (bc W u1/\L'.length<=c'/\Re.IsL u1 W.heap.size p' L'):=⟨below_then KU.out hb1,hc,hi.weak KU.out.size⟩
 refine hK.out _ _ ⟨hHeld.1.below hb1,hHeld.2.below hb1⟩ ?_
 clear hK K hHeld hc hi hb1 KU
 intro hHeld
 try simp only [Act.put,zaa,zba,zca]
 refine tma 10 7 rfl ?_
 try simp only [Act.put,zaa,zba,zca]
 refine tma 11 18 rfl ?_
 try simp only [Act.put,zaa,zba,zca]
 refine tma 12 19 rfl ?_
 try simp only [Act.put,zaa,zba,zca]
 refine tma 13 5 rfl ?_
 try simp only [Act.put,zaa,zba,zca]
 refine tma 14 6 rfl ?_
 try simp only [Act.put,zaa,zba,zca]
 clear hHeld
 refine wpAnyH_done kc ?_ _
 refine NoPanic.normal ?_
 have d1:decide (E=0)=false:=by simp [E0]
 have d2:(E==0)=false:=by simp [E0]
 have HE:Hid (bc W u1):=KU1.out.1
 clear KU1 AC
 go_wp2_with fail
 go_returns
 exact ⟨rfl,HE.out⟩
theorem Mn.proc (h:Mn O n W M Q T root I A B) {i:Nat} {P:Pr} (hi:i<16) (hA:A i=some P):(Instr.lookup 53 (.map (some M.pm)) (.int .i64 (i:Nat)) false).run Tryz.prog W=.ok (pp P.pb) W:=by
 have q:=h.prm.look (k:=(i:Nat)) (wf64 (by omega) (by omega))
 rw [prF_nat,if_pos hi,hA] at q
 exact q
theorem Mn.nobody (h:Mn O n W M Q T root I A B) (i:Int) (hw:(Lit.int .i64 i).wf=true) (hA:prF A i=none):(Instr.lookup 53 (.map (some M.pm)) (.int .i64 i) false).run Tryz.prog W=.ok (.pointer none) W:=by
 have q:=h.prm.look (k:=i) hw
 rw [hA] at q
 exact q
theorem Mn.used (h:Mn O n W M Q T root I A B) {i:Nat} {P:Pr} (hi:i<16) (hA:A i=some P):Calls Tryz.prog 11 #[pp M.mb,.int .i64 (i:Nat)] W (re (.int .i64 (Qo.getN T P.k).used) W):=by
 have GC0: ∀ w:World,bc W w->Calls Tryz.prog 23 #[pp M.tb,.int .i64 P.k] w (re (.tuple #[(Qo.getN T P.k).val,.bool (Qo.getN T P.k).live]) w):=fun w hb=>Qo.get_any M.tb T P.k w (h.tre.below hb)
 generalize Qo.getN T P.k=nd at GC0 |-
 obtain ⟨na,nq,nu,nl,nv⟩:=nd
 have GC:Hid (∀ w:World,bc W w->Calls Tryz.prog 23 #[pp M.tb,.int .i64 P.k] w (re (.tuple #[.agg #[.int .i64 na,.int .i64 nq,.int .i64 nu,.int .i64 nl,.bool nv],.bool nv]) w)):=GC0
 have HM:Hid (Mn O n W M Q T root I A B):=h
 have BS:Hid (Md W M.mb M.tq M.tb M.pm/\Blk W P.pb (se1 P.par P.k P.st.r0 P.st.r1 P.st.r2 P.st.r3 P.st.told P.st.en P.st.inn P.st.fa P.st.fc P.st.s0 P.st.s1 P.st.s2 P.st.s3 (.slice P.rp P.L.length P.rc) (.map (some P.lb)) (.map (some P.wb))) 88):=⟨h.mod,(h.prs i P hi hA).pro⟩
 have lk:=h.proc hi hA
 have c3:W.cell? ⟨M.mb,1538,none⟩=some (.map (some M.pm)):=h.mod.2.2.1
 have LP:Hid (P.pb<W.heap.size):=(h.prs i P hi hA).pro.lt
 clear h GC0 hA hi
 go_enter Tryz.func11,Tryz.ntmps11
 go_upto_region 4 with fail
 clear lk c3
 go_cut [6,7] (fun v _ V=> ∃ bx:Nat,v=.pointer (some ⟨bx,0,none⟩)/\Hid (Blk V bx (sn na nq nu nl nv) 76/\bc W V))
 case first =>
  refine hda (fun cw=>Md cw M.mb M.tq M.tb M.pm/\Blk cw P.pb (se1 P.par P.k P.st.r0 P.st.r1 P.st.r2 P.st.r3 P.st.told P.st.en P.st.inn P.st.fa P.st.fc P.st.s0 P.st.s1 P.st.s2 P.st.s3 (.slice P.rp P.L.length P.rc) (.map (some P.lb)) (.map (some P.wb))) 88) BS.out fun hHeld=> ?_
  have KU:Hid (bc W W.drew):=below_drew (Below.refl _ _)
  clear BS
  generalize W.drew=U at hHeld KU |-
  refine tma 0 17 rfl ?_
  refine tma 1 18 rfl ?_
  refine tma 2 19 rfl ?_
  refine tla 3 20 (pp M.tb) rfl ?_ ?_
  . exact kj1
  refine tma 4 21 rfl ?_
  refine tma 5 22 rfl ?_
  refine tma 6 23 rfl ?_
  refine tla 7 24 (.int .i64 P.k) rfl ?_ ?_
  . exact kk1
  refine wpAnyH_ready (rs:=[8,12]) kc (by simp) ?_
  refine AllReadyH.cons (o:=⟨some 25,_,_,_,_,none⟩) rfl (fun K hK=> ?_) (AllReadyH.cons (o:=⟨some 6,_,_,_,_,none⟩) rfl (fun K hK=> ?_) AllReadyH.nil)
  . go_simp
    go_wp2_with (go_at_call 23;refine Calls.mono (GC.out _ KU.out) ?_;rintro e u4 ⟨rfl,hb4⟩)
    have KU4:Hid (bc W u4):=below_then KU.out hb4
    clear KU
    have KU:=KU4
    clear KU4
    refine hK.out _ _ ⟨hHeld.1.below hb4,hHeld.2.below hb4⟩ ?_
    clear hK K hHeld hb4
    intro hHeld
    try simp only [Act.put,zaa,zba,zca]
    refine tma 9 16 rfl ?_
    refine tma 10 26 rfl ?_
    refine tma 11 27 rfl ?_
    refine rda 12 ⟨some 6,_,_,_,_,none⟩ rfl fun K hK=> ?_
    go_simp
    have gb:bc u4 (u4.alloc (.cells sk1 76)):=baa
    have BK:Hid (Blk (u4.alloc (.cells sk1 76)) u4.heap.size (sn 0 0 0 0 false) 76/\bc W (u4.alloc (.cells sk1 76))/\W.heap.size<=u4.heap.size):=⟨Blk.made _ _ _,below_then KU.out gb,KU.out.size⟩
    refine hK.out _ _ ⟨hHeld.1.below gb,hHeld.2.below gb⟩ ?_
    clear hK K hHeld gb KU
    intro hHeld
    try simp only [Act.put,zaa,zba,zca]
    generalize u4.alloc (.cells sk1 76)=V at hHeld BK |-
    generalize u4.heap.size=bx at BK |-
    refine rda 13 ⟨none,.store 76 (.tmp 6) (.tmp 26),_,_,_,none⟩ rfl fun K hK=> ?_
    refine wanted_mp rfl ?_
    have th:V.there bx 0 5:=BK.out.1.there
    refine wp_store_mid _ _ _ rfl bx 0 #[.int .i64 na,.int .i64 nq,.int .i64 nu,.int .i64 nl,.bool nv] rfl rfl th kc kq1 ?_
    (try simp only [List.toList_toArray])
    have gk:=grown_setCells bx (sn na nq nu nl nv) 0 V
    have NE:Hid (M.mb≠bx/\P.pb≠bx):=by
     have l1:=HM.out.lt M.mb (by rw [HM.out.o1];omega)
     have l5:=LP.out
     have:=BK.out.2.2
     exact ⟨by omega,by omega⟩
    have F9:Hid (Blk (V.setCells bx 0 (sn na nq nu nl nv)) bx (sn na nq nu nl nv) 76/\bc W (V.setCells bx 0 (sn na nq nu nl nv))):=⟨BK.out.1.put rfl,below_put BK.out.2.1 BK.out.2.2 _⟩
    have S9:Hid (Md (V.setCells bx 0 (sn na nq nu nl nv)) M.mb M.tq M.tb M.pm/\Blk (V.setCells bx 0 (sn na nq nu nl nv)) P.pb (se1 P.par P.k P.st.r0 P.st.r1 P.st.r2 P.st.r3 P.st.told P.st.en P.st.inn P.st.fa P.st.fc P.st.s0 P.st.s1 P.st.s2 P.st.s3 (.slice P.rp P.L.length P.rc) (.map (some P.lb)) (.map (some P.wb))) 88):=⟨hHeld.1.block gk.size (gk.block _ hHeld.1.2.2.2 (fun e=>NE.out.1 (sia e))),(gk.block _ hHeld.2.lt (fun e=>NE.out.2 (sia e))).trans hHeld.2⟩
    clear gk NE
    generalize V.setCells bx 0 (sn na nq nu nl nv)=u9 at *
    refine hK.out _ _ S9.out ?_
    clear hK K hHeld th S9 BK
    intro hHeld
    try simp only [Act.put,zaa,zba,zca]
    refine tma 14 7 rfl ?_
    clear hHeld
    refine wpAnyH_done kc ?_ _
    refine NoPanic.normal ?_
    go_wp2_with fail
    go_meet
    exact ⟨bx,rfl,F9⟩
  . go_simp
    have gb:bc U (U.alloc (.cells sk1 76)):=baa
    have BK:Hid (Blk (U.alloc (.cells sk1 76)) U.heap.size (sn 0 0 0 0 false) 76/\bc W (U.alloc (.cells sk1 76))/\W.heap.size<=U.heap.size):=⟨Blk.made _ _ _,below_then KU.out gb,KU.out.size⟩
    refine hK.out _ _ ⟨hHeld.1.below gb,hHeld.2.below gb⟩ ?_
    clear hK K hHeld gb KU
    intro hHeld
    try simp only [Act.put,zaa,zba,zca]
    generalize U.alloc (.cells sk1 76)=V at hHeld BK |-
    generalize U.heap.size=bx at BK |-
    refine rda 8 ⟨some 25,_,_,_,_,none⟩ rfl fun K hK=> ?_
    go_simp
    go_wp2_with (go_at_call 23;refine Calls.mono (GC.out _ BK.out.2.1) ?_;rintro e u4 ⟨rfl,hb4⟩)
    have BK4:Hid (Blk u4 bx (sn 0 0 0 0 false) 76/\bc W u4/\W.heap.size<=bx):=⟨BK.out.1.below hb4,below_then BK.out.2.1 hb4,BK.out.2.2⟩
    clear BK
    have BK:=BK4
    clear BK4
    refine hK.out _ _ ⟨hHeld.1.below hb4,hHeld.2.below hb4⟩ ?_
    clear hK K hHeld hb4
    intro hHeld
    try simp only [Act.put,zaa,zba,zca]
    refine tma 9 16 rfl ?_
    refine tma 10 26 rfl ?_
    refine tma 11 27 rfl ?_
    refine rda 13 ⟨none,.store 76 (.tmp 6) (.tmp 26),_,_,_,none⟩ rfl fun K hK=> ?_
    refine wanted_mp rfl ?_
    have th:u4.there bx 0 5:=BK.out.1.there
    refine wp_store_mid _ _ _ rfl bx 0 #[.int .i64 na,.int .i64 nq,.int .i64 nu,.int .i64 nl,.bool nv] rfl rfl th kc kq1 ?_
    (try simp only [List.toList_toArray])
    have gk:=grown_setCells bx (sn na nq nu nl nv) 0 u4
    have NE:Hid (M.mb≠bx/\P.pb≠bx):=by
     have l1:=HM.out.lt M.mb (by rw [HM.out.o1];omega)
     have l5:=LP.out
     have:=BK.out.2.2
     exact ⟨by omega,by omega⟩
    have F9:Hid (Blk (u4.setCells bx 0 (sn na nq nu nl nv)) bx (sn na nq nu nl nv) 76/\bc W (u4.setCells bx 0 (sn na nq nu nl nv))):=⟨BK.out.1.put rfl,below_put BK.out.2.1 BK.out.2.2 _⟩
    have S9:Hid (Md (u4.setCells bx 0 (sn na nq nu nl nv)) M.mb M.tq M.tb M.pm/\Blk (u4.setCells bx 0 (sn na nq nu nl nv)) P.pb (se1 P.par P.k P.st.r0 P.st.r1 P.st.r2 P.st.r3 P.st.told P.st.en P.st.inn P.st.fa P.st.fc P.st.s0 P.st.s1 P.st.s2 P.st.s3 (.slice P.rp P.L.length P.rc) (.map (some P.lb)) (.map (some P.wb))) 88):=⟨hHeld.1.block gk.size (gk.block _ hHeld.1.2.2.2 (fun e=>NE.out.1 (sia e))),(gk.block _ hHeld.2.lt (fun e=>NE.out.2 (sia e))).trans hHeld.2⟩
    clear gk NE
    generalize u4.setCells bx 0 (sn na nq nu nl nv)=u9 at *
    refine hK.out _ _ S9.out ?_
    clear hK K hHeld th S9 BK
    intro hHeld
    try simp only [Act.put,zaa,zba,zca]
    refine tma 14 7 rfl ?_
    clear hHeld
    refine wpAnyH_done kc ?_ _
    refine NoPanic.normal ?_
    go_wp2_with fail
    go_meet
    exact ⟨bx,rfl,F9⟩
 obtain ⟨bx,rfl,F9⟩:=hcut
 have x2:wc.cell? ⟨bx,2,none⟩=some (.int .i64 nu):=F9.out.1.cell 2
 go_wp2_with fail
 go_returns
 exact ⟨rfl,F9.out.2⟩
theorem Mn.used_no (h:Mn O n W M Q T root I A B) (i:Int) (hw:(Lit.int .i64 i).wf=true) (hA:prF A i=none):Calls Tryz.prog 11 #[pp M.mb,.int .i64 i] W fun e w'=>e=.returned (.int .i64 (-1))/\w'=W:=by
 have lk:=h.nobody i hw hA
 have c3:W.cell? ⟨M.mb,1538,none⟩=some (.map (some M.pm)):=h.mod.2.2.1
 clear h hA
 go_enter Tryz.func11,Tryz.ntmps11
 go_wp2_with fail
 go_returns
 exact ⟨rfl,rfl⟩
end
end Go.Proofs.YtokpmclmdobgeaaGreat.Fl
