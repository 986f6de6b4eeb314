import Derived.Test.YtmabmknmnkhhbaaGreatDoorSWl
import Derived.Test.YtmabmknmnkhhbaaGreatDoorKZl
namespace Go.Proofs.YtmabmknmnkhhbaaGreatDoor.Sp
open Go.ChangeShapes Go.WideShapes Go.ChangeAt Go.RowKit Go.Maps
open Go.Proofs.YtmabmknmnkhhbaaGreatDoor.Tt
set_option linter.unusedSimpArgs false
set_option linter.unusedVariables false
set_option maxRecDepth 8000
theorem lk_lent {w:World} {b n c:Nat} {pg:Int} {z:Int} (h:Pc.MapC w b n c (Pc.setF Pc.noneF pg (some z))) {x:Int} (wx:(Lit.int .i64 x).wf=true) :
 (Instr.lookup 110 (.map (some b)) (.int .i64 x) true).run Tryz.prog w=.ok (.tuple #[.int .i64 (if x=pg then z else 0),.bool (decide (x=pg))]) w:=by
 have q:=h.look wx
 by_cases c:x=pg
 . subst c
   rw [Pc.set_same] at q
   rw [if_pos rfl,decide_eq_true rfl];exact q
 . rw [Pc.set_other _ _ _ _ c] at q
   rw [if_neg c,decide_eq_false c];exact q
set_option maxHeartbeats 2000000 in
theorem led_one {Y:Nat->Prop} {O:Nat->Nat} {n:Nat} {W:World} {M:Mb} {m:Pm} {s:Ps} {T:Nat->Tl.Ln} {S:Pc.Tg} {a:Sr} {B:List Sr} (h:Mc Y O n W M m s T S (a::B)) (f t pg z:Int) (f0:0<=f) (fp:f<=pg) (pt:pg<t) (t1:t<=34359738368) (hl:a.lt=Pc.setF Pc.noneF pg (some z)) :
 Calls Tryz.prog 59 #[pp a.sb,.agg #[.int .i64 f,.int .i64 t]] W fun e w'=> ∃ v,e=.returned v/\Li.OI w' W.heap.size v [pg]/\Below W.heap.size W w':=by
 have ma:=List.mem_cons_self (a:=a) (l:=B)
 have LK:Hid (∀ (w:World) (x:Int),Below W.heap.size W w->0<=x->x<=34359738368->(Instr.lookup 110 (.map (some a.lb)) (.int .i64 x) true).run Tryz.prog w=.ok (.tuple #[.int .i64 (if x=pg then z else 0),.bool (decide (x=pg))]) w/\w.cell? ⟨a.sb,3,none⟩=some (.map (some a.lb))):=fun w x hb x0 x1=>by
  have q:=(h.below hb).sp a ma
  obtain ⟨c,hm⟩:=q.map
  rw [hl] at hm
  exact ⟨lk_lent hm (wf64 (by omega) (by omega)),q.blk.cell 3⟩
 have G0:Hid (Blk (W.alloc (.cells #[.int .i64 f,.int .i64 t] 23)) W.heap.size [.int .i64 f,.int .i64 t] 23/\Below W.heap.size W (W.alloc (.cells #[.int .i64 f,.int .i64 t] 23))):=⟨Blk.made _ _ _,Go.Joins.below_alloc1 _ _⟩
 have HF:Hid (0<=f/\f<=pg/\pg<t/\t<=34359738368):=⟨f0,fp,pt,t1⟩
 clear h hl f0 fp pt t1
 go_enter Tryz.func59,Tryz.ntmps59
 go_upto_region 2 with fail
 have HS:Hid ((W.alloc (.cells #[.int .i64 f,.int .i64 t] 23)).heap.size=W.heap.size+1):=World.size_alloc _ _
 generalize (W.alloc (.cells #[.int .i64 f,.int .i64 t] 23))=W0 at G0 HS |-
 obtain ⟨q,hq⟩: ∃ q,q=W.heap.size:=⟨_,rfl⟩
 have G1:Hid (Blk W0 q [.int .i64 f,.int .i64 t] 23/\Below W.heap.size W W0/\q=W.heap.size):=by rw [hq];exact ⟨G0.out.1,G0.out.2,rfl⟩
 rw [<- hq]
 clear hq G0
 have c0:W0.cell? ⟨q,0,none⟩=some (.int .i64 f):=G1.out.1.cell 0
 go_wp2_with fail
 go_loopw [5,6,7,8] (fun lv pv _ _ V=> ∃ x:Int,pv=.int .i64 x/\Hid (f<=x/\x<=t)/\Hid (Li.OI V (W.heap.size+1) lv (if pg<x then [pg] else [])/\Below W0.heap.size W0 V)) (fun _ pv _ _ _=>(t-intOf pv).toNat)
 case atStart=>exact ⟨f,rfl,⟨Int.le_refl _,by have:=HF.out;omega⟩,by rw [if_neg (by have:=HF.out;omega)];exact Li.ol_none _ _ _ _ _,Below.refl _ _⟩
 case round =>
  clear c0
  obtain ⟨x,rfl,hx,ho⟩:=hrel
  have c1:wr.cell? ⟨q,1,none⟩=some (.int .i64 t):=(G1.out.1.below ho.out.2).cell 1
  by_cases ct:x<t
  rotate_left
  . have d1:decide (x<t)=false:=by simp;omega
    have HE:Hid (Li.OI wr W.heap.size _ [pg]/\Below W.heap.size W wr):=⟨by
     have q:=ho.out.1
     rw [if_pos (by have:=HF.out;have:=hx.out;omega)] at q
     exact Li.row_weak q (Nat.le_succ _),below_then G1.out.2.1 ho.out.2⟩
    clear ho hx ct
    go_wp2_with fail
    go_returns
    exact ⟨_,rfl,HE.out⟩
  . have d1:decide (x<t)=true:=by simp;omega
    obtain ⟨lk,c3⟩:=LK.out wr x (below_then G1.out.2.1 ho.out.2) (by have:=HF.out;have:=hx.out;omega) (by have:=HF.out;omega)
    have x1:IntKind.i64.wrap (x+1)=x+1:=by have:=HF.out;have:=hx.out;simp only [IntKind.wrap_i64];omega
    by_cases cp:x=pg
    . subst cp
      rw [if_pos rfl,decide_eq_true rfl] at lk
      obtain ⟨v',W2,r2,ho2,hg,hat⟩:=Li.app_row Li.eI_len Li.eI_one (by decide) Tryz.underlying46 Li.infoI rfl (by decide) (W.heap.size+1) _ [] x (by simp) wr (by have q:=ho.out.1;rw [if_neg (by omega)] at q;exact q) (by have:=ho.out.2.size;have:=G1.out.1.lt;have:=G1.out.2.2;omega)
      have HN:Hid ((f<=x+1/\x+1<=t)/\(Li.OI W2 (W.heap.size+1) v' (if x<x+1 then [x] else [])/\Below W0.heap.size W0 W2)):=by
       refine ⟨⟨by have:=hx.out;omega,by omega⟩,by rw [if_pos (by omega)];exact ho2,?_⟩
       have q:=ho.out.1
       have b0:=ho.out.2
       have sz:=G1.out.2.2
       have lq:=G1.out.1.lt
       have ll: ∀ g,u5.ownBlock=some g->W.heap.size+1<=g:=fun g e=>(Li.row_lt q g e).1
       have hw:W0.heap.size=W.heap.size+1:=HS.out
       refine ⟨hg.os.trans b0.os,hg.tape.trans b0.tape,hg.output.trans b0.output,Nat.le_trans b0.size (Nat.le_trans (by rw [World.size_alloc];omega) hg.size),fun j hj=> ?_⟩
       have e1:=hg.block j (by rw [World.size_alloc];have:=b0.size;omega) (fun e=>by have:=ll j e.symm;omega)
       exact e1.trans (((Go.Joins.below_alloc1 wr _).block j (by have:=b0.size;omega)).trans (b0.block j hj))
      have MS:Hid (x<t):=ct
      clear ho hx ct ho2 hg hat LK
      go_wp2_with (at_builtin;refine Li.wpList_app rfl _ _ 46 rfl u5 (.slice (some ⟨wr.heap.size,0,none⟩) 1 1) rfl rfl v' W2 r2 ?_)
      go_roundw
      case rel=>exact ⟨x+1,rfl,HN.out.1,HN.out.2⟩
      case measure=>have:=MS.out;simp only [intOf];omega
    . rw [if_neg cp,decide_eq_false cp] at lk
      have HN:Hid ((f<=x+1/\x+1<=t)/\(Li.OI wr (W.heap.size+1) _ (if pg<x+1 then [pg] else [])/\Below W0.heap.size W0 wr)):=⟨⟨by have:=hx.out;omega,by omega⟩,by
       have q:=ho.out.1
       by_cases c5:pg<x
       . rw [if_pos c5] at q;rw [if_pos (by omega)];exact q
       . rw [if_neg c5] at q;rw [if_neg (by omega)];exact q,ho.out.2⟩
      have MS:Hid (x<t):=ct
      clear ho hx cp ct
      go_wp2_with fail
      go_roundw
      case rel=>exact ⟨x+1,rfl,HN.out.1,HN.out.2⟩
      case measure=>have:=MS.out;simp only [intOf];omega
end Go.Proofs.YtmabmknmnkhhbaaGreatDoor.Sp
namespace Go.Proofs.YtmabmknmnkhhbaaGreatDoor.Sp
open Go.ChangeShapes Go.WideShapes Go.ChangeAt Go.RowKit Go.Maps
open Go.Proofs.YtmabmknmnkhhbaaGreatDoor.Tt
set_option linter.unusedSimpArgs false
set_option linter.unusedVariables false
set_option maxRecDepth 8000
theorem look1 {w:World} {b n c:Nat} {f:Int->Option Int} (h:Pc.MapC w b n c f) {k:Int} (hk:(Lit.int .i64 k).wf=true) :
 (Instr.lookup 110 (.map (some b)) (.int .i64 k) false).run Tryz.prog w=.ok (.int .i64 ((f k).getD 0)) w:=by
 obtain ⟨D,hown,_,hD⟩:=h
 obtain ⟨v,ps,hrun,hv⟩:=hown.lookup keyLaw Tryz.underlying110 (Pc.zeroI w) (plainElem_int Tryz.underlying3 (by decide)) (keyOf_int_mk Tryz.underlying3 hk)
 obtain ⟨x,rfl,hx,_⟩:=plainElem_int_inv Tryz.underlying3 hv
 have e:=congrArg Prod.fst hx
 simp only [(hD k).2] at e
 have e2:(f k).getD 0=x:=by simpa using e
 rw [hrun,e2]
theorem oi_one {w:World} {base:Nat} {v:Value} {x:Int} (h:Li.OI w base v [x]): ∃ g o c,v=.slice (some ⟨g,o,none⟩) 1 c/\1<=c/\base<=g/\g<w.heap.size/\w.cell? ⟨g,o,none⟩=some (.int .i64 x):=by
 obtain ⟨p,c,e,hc,_,q⟩:=(Li.ol_ll Li.eI_len h).form
 obtain ⟨g,o,rfl,l1,l2,cc⟩:=q 0 (by simp)
 refine ⟨g,o,c,e,hc,l1,l2,?_⟩
 have:=cc 0 (by omega)
 simpa [Li.eI] using this
set_option maxHeartbeats 1000000 in
theorem lends_one {Y:Nat->Prop} {O:Nat->Nat} {n:Nat} {W:World} {M:Mb} {m:Pm} {s:Ps} {T:Nat->Tl.Ln} {S:Pc.Tg} {a:Sr} {B:List Sr} (h:Mc Y O n W M m s T S (a::B)) (pg z:Int) (p0:0<=pg) (p1:pg<=34359738368) (hl:a.lt pg=some z) (g o c:Nat) (lg:g<W.heap.size) (cg:W.cell? ⟨g,o,none⟩=some (.int .i64 pg)) :
 Calls Tryz.prog 61 #[pp a.sb,.slice (some ⟨g,o,none⟩) 1 c] W fun e w'=>e=.returned (.bool (decide (0<z)))/\w'=W:=by
 have ma:=List.mem_cons_self (a:=a) (l:=B)
 have sa:=h.sp a ma
 have lk:(Instr.lookup 110 (.map (some a.lb)) (.int .i64 pg) false).run Tryz.prog W=.ok (.int .i64 z) W:=by
  obtain ⟨c,hm⟩:=sa.map
  have q:=look1 hm (k:=pg) (wf64 (by omega) (by omega))
  rw [hl] at q;exact q
 have c3:W.cell? ⟨a.sb,3,none⟩=some (.map (some a.lb)):=sa.blk.cell 3
 clear h sa hl p0 p1
 obtain ⟨zb,hzb⟩: ∃ zb,zb=decide (0<z):=⟨_,rfl⟩
 rw [<- hzb]
 have hz2:decide (0<z)=zb:=hzb.symm
 clear hzb
 cases zb
 . go_enter Tryz.func61,Tryz.ntmps61
   go_wp2_with fail
   refine wp_loop_rounds 3 ?_
   rw [rounds_succ]
   go_wp2_with fail
   rw [rounds_succ]
   go_wp2_with fail
   go_returns
   exact ⟨rfl,rfl⟩
 . go_enter Tryz.func61,Tryz.ntmps61
   go_wp2_with fail
   refine wp_loop_rounds 3 ?_
   rw [rounds_succ]
   go_wp2_with fail
   go_returns
   exact ⟨rfl,rfl⟩
set_option maxHeartbeats 1000000 in
theorem forget_none {Y:Nat->Prop} {O:Nat->Nat} {n:Nat} {W:World} {M:Mb} {m:Pm} {s:Ps} {T:Nat->Tl.Ln} {S:Pc.Tg} {a:Sr} {B:List Sr} (h:Mc Y O n W M m s T S (a::B)) (id pg:Int) (wi:(Lit.int .i64 id).wf=true) (ht:S.T id=none) :
 Calls Tryz.prog 70 #[pp M.mb,.int .i64 id,.int .i64 pg] W fun e w'=>e=.returned (.tuple #[])/\Below W.heap.size W w':=by
 have TC:Hid (Calls Tryz.prog 65 #[pp M.tg,.int .i64 id] W fun e w'=>e=.returned (.tuple #[.int .i64 0,.bool false])/\w'=W):=by
  have q:=Pc.tag_any M.tg M.tm M.ow n S id wi W h.tgs
  rw [ht] at q;exact q
 have c4:W.cell? ⟨M.mb,4,none⟩=some (pp M.tg):=h.mac.cell 4
 clear h wi ht
 go_enter Tryz.func70,Tryz.ntmps70
 go_wp2_with fail
 refine Calls.mono TC.out ?_
 rintro e w1 ⟨rfl,hu⟩
 have hu2:=hu.symm
 subst hu2
 clear TC hu
 go_wp2_with fail
 go_end0
 exact ⟨rfl,Below.refl _ _⟩
set_option maxHeartbeats 1000000 in
theorem borrows_none {Y:Nat->Prop} {O:Nat->Nat} {n:Nat} {W:World} {M:Mb} {m:Pm} {s:Ps} {T:Nat->Tl.Ln} {S:Pc.Tg} {a:Sr} {B:List Sr} (h:Mc Y O n W M m s T S (a::B)) (f t g1 g2:Int) (gw gu gx:Bool) (hL:a.L=[⟨g1,g2,gw,gu,gx,0⟩]) :
 Calls Tryz.prog 60 #[pp a.sb,.agg #[.int .i64 f,.int .i64 t]] W fun e w'=>e=.returned (.bool false)/\Below W.heap.size W w':=by
 have ma:=List.mem_cons_self (a:=a) (l:=B)
 have bb:Below W.heap.size W (W.alloc (.cells #[.int .i64 f,.int .i64 t] 23)):=Go.Joins.below_alloc1 _ _
 have sa:=(h.below bb).sp a ma
 obtain ⟨g,hr,_,lg,cc⟩:=sa.lis 0 (by rw [hL];simp)
 rw [hL] at cc
 have y0:(W.alloc (.cells #[.int .i64 f,.int .i64 t] 23)).cell? ⟨g,0,none⟩=some (.int .i64 g1):=by have:=cc 0 _ rfl;simpa using this
 have y1:(W.alloc (.cells #[.int .i64 f,.int .i64 t] 23)).cell? ⟨g,1,none⟩=some (.int .i64 g2):=by have:=cc 1 _ rfl;simpa using this
 have y2:(W.alloc (.cells #[.int .i64 f,.int .i64 t] 23)).cell? ⟨g,2,none⟩=some (.bool gw):=by have:=cc 2 _ rfl;simpa using this
 have y3:(W.alloc (.cells #[.int .i64 f,.int .i64 t] 23)).cell? ⟨g,3,none⟩=some (.bool gu):=by have:=cc 3 _ rfl;simpa using this
 have y4:(W.alloc (.cells #[.int .i64 f,.int .i64 t] 23)).cell? ⟨g,4,none⟩=some (.bool gx):=by have:=cc 4 _ rfl;simpa using this
 have y5:(W.alloc (.cells #[.int .i64 f,.int .i64 t] 23)).cell? ⟨g,5,none⟩=some (.int .i64 0):=by have:=cc 5 _ rfl;simpa using this
 have c2:(W.alloc (.cells #[.int .i64 f,.int .i64 t] 23)).cell? ⟨a.sb,2,none⟩=some (.slice (some ⟨g,0,none⟩) 1 a.rc):=by
  have q:(W.alloc (.cells #[.int .i64 f,.int .i64 t] 23)).cell? ⟨a.sb,2,none⟩=some (.slice a.rp a.L.length a.rc):=sa.blk.cell 2
  rw [hr,hL] at q;exact q
 have c1:1<=a.rc:=by have:=sa.cap;rw [hL] at this;simpa using this
 have HB:Hid (Below W.heap.size W (W.alloc (.cells #[.int .i64 f,.int .i64 t] 23))):=bb
 generalize a.rc=rc at c2 c1
 clear h sa cc hr hL bb
 go_enter Tryz.func60,Tryz.ntmps60
 go_upto_region 1 with fail
 generalize (W.alloc (.cells #[.int .i64 f,.int .i64 t] 23))=W0 at *
 go_wp2_with fail
 refine wp_loop_rounds 3 ?_
 rw [rounds_succ]
 go_wp2_with fail
 rw [rounds_succ]
 go_wp2_with fail
 go_returns
 exact ⟨rfl,below_new HB.out _⟩
end Go.Proofs.YtmabmknmnkhhbaaGreatDoor.Sp
namespace Go.Proofs.YtmabmknmnkhhbaaGreatDoor.Sp
open Go.ChangeShapes Go.WideShapes Go.ChangeAt Go.RowKit Go.Maps
open Go.Proofs.YtmabmknmnkhhbaaGreatDoor.Tt
set_option linter.unusedSimpArgs false
set_option linter.unusedVariables false
set_option maxRecDepth 8000
theorem rt_give {m:Pm} {s:Ps} {k f root:Nat} {tab:Nat->Nat->Option Nat} {lf:Nat->Option Lf} (H:Rt m s root tab lf) (hn: ∀ l x,tab l x≠some f):Rt m (giveS s k f) root tab lf:=⟨H.pw,H.fu,fun l x g e=>by
 obtain ⟨a,b,c⟩:=H.ow l x g e
 have ne:g≠f:=fun q=>hn l x (by rw [<- q];exact e)
 refine ⟨a,?_,fun q=> ?_⟩
 . show Bd.setF s.G f none g=some 0
   unfold Bd.setF
   rw [if_neg (by omega)];exact b
 . rcases q with q | q
   . exact c q
   . exact ne q⟩
end Go.Proofs.YtmabmknmnkhhbaaGreatDoor.Sp
namespace Go.Proofs.YtmabmknmnkhhbaaGreatDoor.Sp
open Go.ChangeShapes Go.WideShapes Go.ChangeAt Go.RowKit Go.Maps
open Go.Proofs.YtmabmknmnkhhbaaGreatDoor.Tt
set_option linter.unusedSimpArgs false
set_option linter.unusedVariables false
set_option maxRecDepth 8000
theorem cut_new (p:Option Addr) (c:Nat) (L:List Re.Rg) (hL:L.length<=100) (f t:Int) (hE:Re.checkN L f t=0) (M:List Re.Rg) (hM:Re.chg (fun _=>Re.Rg.zero) f t L=M) (h64:M.length<=64) (w:World) (h:Re.IsL w 0 p L) :
 Calls Tryz.prog 58 #[.slice p L.length c,.agg #[.int .i64 f,.int .i64 t]] w fun e w'=> ∃ p' c',e=.returned (.tuple #[.slice p' M.length c',.int .i64 0])/\Below w.heap.size w w'/\(∀ x,p'=some x-> ∃ g,x=⟨g,0,none⟩)/\M.length<=c' :=
 (Re.cut_any 0 p c L hL f t w h).mono fun e w' ⟨v,er,h1,h2,h3⟩=>by
  rw [hM] at h2
  rcases h2 with ⟨q,_⟩ | ⟨_,⟨q1,q2,q3⟩ | ⟨q1,_⟩⟩
  . exact absurd hE q
  . obtain ⟨p',c',k1,k2,k3⟩:=Re.own_readb q3
    refine ⟨p',c',by rw [h1,k1,q2],h3,fun x ex=> ?_,k2⟩
    rcases q3.2 with ⟨z1,z2⟩ | ⟨g,cap,cur,e1,_⟩
    . rw [k1,ex] at z1;cases z1
    . rw [k1,ex] at e1;cases e1;exact ⟨g,rfl⟩
  . omega
theorem cut_whole (f t:Int) (w u x:Bool) (h0:0<=f) (h1:f<t) (h2:t<=34359738368) (h3:t-f<=65536):Re.checkN [⟨f,t,w,u,x,0⟩] f t=0/\Re.chg (fun _=>Re.Rg.zero) f t [⟨f,t,w,u,x,0⟩]=[]:=by
 refine ⟨?_,?_⟩
 . unfold Re.checkN
   rw [if_pos (by unfold Re.rightB;simp;omega),if_pos (by simp [Re.goodB,Re.allB,Re.okAt,Re.okR,Re.endAt,List.getD];exact ⟨⟨h0,h1,h2⟩,rfl⟩)]
 . have w0: ∀ (r:Re.Rg),r.tt<=r.fr->Re.withL [] r=[]:=fun r h=>by unfold Re.withL;rw [if_pos h]
   show Re.withL (Re.withL (Re.withL [] _) _) _=[]
   rw [w0 _ (show min t f<=f by omega),w0 _ (show (0:Int)<=0 by omega),w0 _ (show t<=max f t by omega)]
def Unmapped (Y:Nat->Prop) (n:Nat) (W w':World) (M:Mb) (m:Pm) (s:Ps) (T:Nat->Tl.Ln) (S:Pc.Tg) (a:Sr) (p:Nat) (ro u:Int) (fr:Nat):Prop :=
 ∃ (O':Nat->Nat) (s':Ps) (tab':Nat->Nat->Option Nat) (p':Option Addr) (c':Nat),Mc Y O' n w' M m s' T S [{ a with tab:=tab',lf:=lfSet a.lf p none,lt:=Pc.setF a.lt p none,rp:=p',rc:=c',L:=[] }]/\(∀ x,p'=some x-> ∃ g,x=⟨g,0,none⟩)/\Nums m s' a.k (ro+1+(tabsN (pgs a.lf):Int)-tabsN (pgs (lfSet a.lf p none))) (u-1-(tabsN (pgs a.lf):Int)+tabsN (pgs (lfSet a.lf p none))) (fr+1+tabsN (pgs a.lf)-tabsN (pgs (lfSet a.lf p none)))/\Kx Y W w'
end Go.Proofs.YtmabmknmnkhhbaaGreatDoor.Sp
