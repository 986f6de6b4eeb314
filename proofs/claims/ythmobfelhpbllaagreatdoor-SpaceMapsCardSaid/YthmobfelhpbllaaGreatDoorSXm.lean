import Derived.Test.YthmobfelhpbllaaGreatDoorSWm
import Derived.Test.YthmobfelhpbllaaGreatDoorKZm
namespace Go.Proofs.YthmobfelhpbllaaGreatDoor.Sp
open Go.ChangeShapes Go.WideShapes Go.ChangeAt Go.RowKit Go.Maps
open Go.Proofs.YthmobfelhpbllaaGreatDoor.Tt
set_option linter.unusedSimpArgs false
set_option linter.unusedVariables false
set_option maxRecDepth 8000
theorem lk_lent {w:World} {b n c:Nat} {pg:Int} {z:Int} (h:Pc.MapC w b n c (Pc.setF Pc.noneF pg (some z))) {x:Int} (wx:(Lit.int .i64 x).wf=true) :
 (Instr.lookup 87 (.map (some b)) (.int .i64 x) true).run Tryz.prog w=.ok (.tuple #[.int .i64 (if x=pg then z else 0),.bool (decide (x=pg))]) w:=by
 have q:=h.look wx
 by_cases c:x=pg
 . subst c
   rw [Pc.set_same] at q
   rw [if_pos rfl,decide_eq_true rfl];exact q
 . rw [Pc.set_other _ _ _ _ c] at q
   rw [if_neg c,decide_eq_false c];exact q
set_option maxHeartbeats 2000000 in
theorem led_one {Y:Nat->Prop} {O:Nat->Nat} {n:Nat} {W:World} {M:Mb} {m:Pm} {s:Ps} {T:Nat->Tl.Ln} {S:Pc.Tg} {a:Sr} {B:List Sr} (h:Mc Y O n W M m s T S (a::B)) (f t pg z:Int) (f0:0<=f) (fp:f<=pg) (pt:pg<t) (t1:t<=34359738368) (hl:a.lt=Pc.setF Pc.noneF pg (some z)) :
 Calls Tryz.prog 49 #[pp a.sb,.agg #[.int .i64 f,.int .i64 t]] W fun e w'=> ∃ v,e=.returned v/\Li.OI w' W.heap.size v [pg]/\Below W.heap.size W w':=by
 have ma:=List.mem_cons_self (a:=a) (l:=B)
 have LK:Hid (∀ (w:World) (x:Int),Below W.heap.size W w->0<=x->x<=34359738368->(Instr.lookup 87 (.map (some a.lb)) (.int .i64 x) true).run Tryz.prog w=.ok (.tuple #[.int .i64 (if x=pg then z else 0),.bool (decide (x=pg))]) w/\w.cell? ⟨a.sb,3,none⟩=some (.map (some a.lb))):=fun w x hb x0 x1=>by
  have q:=(h.below hb).sp a ma
  obtain ⟨c,hm⟩:=q.map
  rw [hl] at hm
  exact ⟨lk_lent hm (wf64 (by omega) (by omega)),q.blk.cell 3⟩
 have G0:Hid (Blk (W.alloc (.cells #[.int .i64 f,.int .i64 t] 56)) W.heap.size [.int .i64 f,.int .i64 t] 56/\Below W.heap.size W (W.alloc (.cells #[.int .i64 f,.int .i64 t] 56))):=⟨Blk.made _ _ _,Go.Joins.below_alloc1 _ _⟩
 have HF:Hid (0<=f/\f<=pg/\pg<t/\t<=34359738368):=⟨f0,fp,pt,t1⟩
 clear h hl f0 fp pt t1
 go_enter Tryz.func49,Tryz.ntmps49
 go_upto_region 2 with fail
 have HS:Hid ((W.alloc (.cells #[.int .i64 f,.int .i64 t] 56)).heap.size=W.heap.size+1):=World.size_alloc _ _
 generalize (W.alloc (.cells #[.int .i64 f,.int .i64 t] 56))=W0 at G0 HS |-
 obtain ⟨q,hq⟩: ∃ q,q=W.heap.size:=⟨_,rfl⟩
 have G1:Hid (Blk W0 q [.int .i64 f,.int .i64 t] 56/\Below W.heap.size W W0/\q=W.heap.size):=by rw [hq];exact ⟨G0.out.1,G0.out.2,rfl⟩
 rw [<- hq]
 clear hq G0
 have c0:W0.cell? ⟨q,0,none⟩=some (.int .i64 f):=G1.out.1.cell 0
 go_wp2_with fail
 go_loopw [5,6,7,8] (fun lv pv _ _ V=> ∃ x:Int,pv=.int .i64 x/\Hid (f<=x/\x<=t)/\Hid (Li.OI V (W.heap.size+1) lv (if pg<x then [pg] else [])/\Below W0.heap.size W0 V)) (fun _ pv _ _ _=>(t-intOf pv).toNat)
 case atStart=>exact ⟨f,rfl,⟨Int.le_refl _,by have:=HF.out;omega⟩,by rw [if_neg (by have:=HF.out;omega)];exact Li.ol_none _ _ _ _ _,Below.refl _ _⟩
 case round =>
  clear c0
  obtain ⟨x,rfl,hx,ho⟩:=hrel
  have c1:wr.cell? ⟨q,1,none⟩=some (.int .i64 t):=(G1.out.1.below ho.out.2).cell 1
  by_cases ct:x<t
  rotate_left
  . have d1:decide (x<t)=false:=by simp;omega
    have HE:Hid (Li.OI wr W.heap.size _ [pg]/\Below W.heap.size W wr):=⟨by
     have q:=ho.out.1
     rw [if_pos (by have:=HF.out;have:=hx.out;omega)] at q
     exact Li.row_weak q (Nat.le_succ _),below_then G1.out.2.1 ho.out.2⟩
    clear ho hx ct
    go_wp2_with fail
    go_returns
    exact ⟨_,rfl,HE.out⟩
  . have d1:decide (x<t)=true:=by simp;omega
    obtain ⟨lk,c3⟩:=LK.out wr x (below_then G1.out.2.1 ho.out.2) (by have:=HF.out;have:=hx.out;omega) (by have:=HF.out;omega)
    have x1:IntKind.i64.wrap (x+1)=x+1:=by have:=HF.out;have:=hx.out;simp only [IntKind.wrap_i64];omega
    by_cases cp:x=pg
    . subst cp
      rw [if_pos rfl,decide_eq_true rfl] at lk
      obtain ⟨v',W2,r2,ho2,hg,hat⟩:=Li.app_row Li.eI_len Li.eI_one (by decide) Tryz.underlying22 Li.infoI rfl (by decide) (W.heap.size+1) _ [] x (by simp) wr (by have q:=ho.out.1;rw [if_neg (by omega)] at q;exact q) (by have:=ho.out.2.size;have:=G1.out.1.lt;have:=G1.out.2.2;omega)
      have HN:Hid ((f<=x+1/\x+1<=t)/\(Li.OI W2 (W.heap.size+1) v' (if x<x+1 then [x] else [])/\Below W0.heap.size W0 W2)):=by
       refine ⟨⟨by have:=hx.out;omega,by omega⟩,by rw [if_pos (by omega)];exact ho2,?_⟩
       have q:=ho.out.1
       have b0:=ho.out.2
       have sz:=G1.out.2.2
       have lq:=G1.out.1.lt
       have ll: ∀ g,u5.ownBlock=some g->W.heap.size+1<=g:=fun g e=>(Li.row_lt q g e).1
       have hw:W0.heap.size=W.heap.size+1:=HS.out
       refine ⟨hg.os.trans b0.os,hg.tape.trans b0.tape,hg.output.trans b0.output,Nat.le_trans b0.size (Nat.le_trans (by rw [World.size_alloc];omega) hg.size),fun j hj=> ?_⟩
       have e1:=hg.block j (by rw [World.size_alloc];have:=b0.size;omega) (fun e=>by have:=ll j e.symm;omega)
       exact e1.trans (((Go.Joins.below_alloc1 wr _).block j (by have:=b0.size;omega)).trans (b0.block j hj))
      have MS:Hid (x<t):=ct
      clear ho hx ct ho2 hg hat LK
      go_wp2_with (at_builtin;refine Li.wpList_app rfl _ _ 22 rfl u5 (.slice (some ⟨wr.heap.size,0,none⟩) 1 1) rfl rfl v' W2 r2 ?_)
      go_roundw
      case rel=>exact ⟨x+1,rfl,HN.out.1,HN.out.2⟩
      case measure=>have:=MS.out;simp only [intOf];omega
    . rw [if_neg cp,decide_eq_false cp] at lk
      have HN:Hid ((f<=x+1/\x+1<=t)/\(Li.OI wr (W.heap.size+1) _ (if pg<x+1 then [pg] else [])/\Below W0.heap.size W0 wr)):=⟨⟨by have:=hx.out;omega,by omega⟩,by
       have q:=ho.out.1
       by_cases c5:pg<x
       . rw [if_pos c5] at q;rw [if_pos (by omega)];exact q
       . rw [if_neg c5] at q;rw [if_neg (by omega)];exact q,ho.out.2⟩
      have MS:Hid (x<t):=ct
      clear ho hx cp ct
      go_wp2_with fail
      go_roundw
      case rel=>exact ⟨x+1,rfl,HN.out.1,HN.out.2⟩
      case measure=>have:=MS.out;simp only [intOf];omega
end Go.Proofs.YthmobfelhpbllaaGreatDoor.Sp
namespace Go.Proofs.YthmobfelhpbllaaGreatDoor.Sp
open Go.ChangeShapes Go.WideShapes Go.ChangeAt Go.RowKit Go.Maps
open Go.Proofs.YthmobfelhpbllaaGreatDoor.Tt
set_option linter.unusedSimpArgs false
set_option linter.unusedVariables false
set_option maxRecDepth 8000
theorem look1 {w:World} {b n c:Nat} {f:Int->Option Int} (h:Pc.MapC w b n c f) {k:Int} (hk:(Lit.int .i64 k).wf=true) :
 (Instr.lookup 87 (.map (some b)) (.int .i64 k) false).run Tryz.prog w=.ok (.int .i64 ((f k).getD 0)) w:=by
 obtain ⟨D,hown,_,hD⟩:=h
 obtain ⟨v,ps,hrun,hv⟩:=hown.lookup keyLaw Tryz.underlying87 (Pc.zeroI w) (plainElem_int Tryz.underlying3 (by decide)) (keyOf_int_mk Tryz.underlying3 hk)
 obtain ⟨x,rfl,hx,_⟩:=plainElem_int_inv Tryz.underlying3 hv
 have e:=congrArg Prod.fst hx
 simp only [(hD k).2] at e
 have e2:(f k).getD 0=x:=by simpa using e
 rw [hrun,e2]
theorem oi_one {w:World} {base:Nat} {v:Value} {x:Int} (h:Li.OI w base v [x]): ∃ g o c,v=.slice (some ⟨g,o,none⟩) 1 c/\1<=c/\base<=g/\g<w.heap.size/\w.cell? ⟨g,o,none⟩=some (.int .i64 x):=by
 obtain ⟨p,c,e,hc,_,q⟩:=(Li.ol_ll Li.eI_len h).form
 obtain ⟨g,o,rfl,l1,l2,cc⟩:=q 0 (by simp)
 refine ⟨g,o,c,e,hc,l1,l2,?_⟩
 have:=cc 0 (by omega)
 simpa [Li.eI] using this
set_option maxHeartbeats 1000000 in
theorem lends_one {Y:Nat->Prop} {O:Nat->Nat} {n:Nat} {W:World} {M:Mb} {m:Pm} {s:Ps} {T:Nat->Tl.Ln} {S:Pc.Tg} {a:Sr} {B:List Sr} (h:Mc Y O n W M m s T S (a::B)) (pg z:Int) (p0:0<=pg) (p1:pg<=34359738368) (hl:a.lt pg=some z) (g o c:Nat) (lg:g<W.heap.size) (cg:W.cell? ⟨g,o,none⟩=some (.int .i64 pg)) :
 Calls Tryz.prog 51 #[pp a.sb,.slice (some ⟨g,o,none⟩) 1 c] W fun e w'=>e=.returned (.bool (decide (0<z)))/\w'=W:=by
 have ma:=List.mem_cons_self (a:=a) (l:=B)
 have sa:=h.sp a ma
 have lk:(Instr.lookup 87 (.map (some a.lb)) (.int .i64 pg) false).run Tryz.prog W=.ok (.int .i64 z) W:=by
  obtain ⟨c,hm⟩:=sa.map
  have q:=look1 hm (k:=pg) (wf64 (by omega) (by omega))
  rw [hl] at q;exact q
 have c3:W.cell? ⟨a.sb,3,none⟩=some (.map (some a.lb)):=sa.blk.cell 3
 clear h sa hl p0 p1
 obtain ⟨zb,hzb⟩: ∃ zb,zb=decide (0<z):=⟨_,rfl⟩
 rw [<- hzb]
 have hz2:decide (0<z)=zb:=hzb.symm
 clear hzb
 cases zb
 . go_enter Tryz.func51,Tryz.ntmps51
   go_wp2_with fail
   refine wp_loop_rounds 3 ?_
   rw [rounds_succ]
   go_wp2_with fail
   rw [rounds_succ]
   go_wp2_with fail
   go_returns
   exact ⟨rfl,rfl⟩
 . go_enter Tryz.func51,Tryz.ntmps51
   go_wp2_with fail
   refine wp_loop_rounds 3 ?_
   rw [rounds_succ]
   go_wp2_with fail
   go_returns
   exact ⟨rfl,rfl⟩
set_option maxHeartbeats 1000000 in
theorem forget_none {Y:Nat->Prop} {O:Nat->Nat} {n:Nat} {W:World} {M:Mb} {m:Pm} {s:Ps} {T:Nat->Tl.Ln} {S:Pc.Tg} {a:Sr} {B:List Sr} (h:Mc Y O n W M m s T S (a::B)) (id pg:Int) (wi:(Lit.int .i64 id).wf=true) (ht:S.T id=none) :
 Calls Tryz.prog 65 #[pp M.mb,.int .i64 id,.int .i64 pg] W fun e w'=>e=.returned (.tuple #[])/\Below W.heap.size W w':=by
 have TC:Hid (Calls Tryz.prog 60 #[pp M.tg,.int .i64 id] W fun e w'=>e=.returned (.tuple #[.int .i64 0,.bool false])/\w'=W):=by
  have q:=Pc.tag_any M.tg M.tm M.ow n S id wi W h.tgs
  rw [ht] at q;exact q
 have c4:W.cell? ⟨M.mb,4,none⟩=some (pp M.tg):=h.mac.cell 4
 clear h wi ht
 go_enter Tryz.func65,Tryz.ntmps65
 go_wp2_with fail
 refine Calls.mono TC.out ?_
 rintro e w1 ⟨rfl,hu⟩
 have hu2:=hu.symm
 subst hu2
 clear TC hu
 go_wp2_with fail
 go_end0
 exact ⟨rfl,Below.refl _ _⟩
set_option maxHeartbeats 1000000 in
theorem borrows_none {Y:Nat->Prop} {O:Nat->Nat} {n:Nat} {W:World} {M:Mb} {m:Pm} {s:Ps} {T:Nat->Tl.Ln} {S:Pc.Tg} {a:Sr} {B:List Sr} (h:Mc Y O n W M m s T S (a::B)) (f t g1 g2:Int) (gw gu gx:Bool) (hL:a.L=[⟨g1,g2,gw,gu,gx,0⟩]) :
 Calls Tryz.prog 50 #[pp a.sb,.agg #[.int .i64 f,.int .i64 t]] W fun e w'=>e=.returned (.bool false)/\Below W.heap.size W w':=by
 have ma:=List.mem_cons_self (a:=a) (l:=B)
 have bb:Below W.heap.size W (W.alloc (.cells #[.int .i64 f,.int .i64 t] 56)):=Go.Joins.below_alloc1 _ _
 have sa:=(h.below bb).sp a ma
 obtain ⟨g,hr,_,lg,cc⟩:=sa.lis 0 (by rw [hL];simp)
 rw [hL] at cc
 have y0:(W.alloc (.cells #[.int .i64 f,.int .i64 t] 56)).cell? ⟨g,0,none⟩=some (.int .i64 g1):=by have:=cc 0 _ rfl;simpa using this
 have y1:(W.alloc (.cells #[.int .i64 f,.int .i64 t] 56)).cell? ⟨g,1,none⟩=some (.int .i64 g2):=by have:=cc 1 _ rfl;simpa using this
 have y2:(W.alloc (.cells #[.int .i64 f,.int .i64 t] 56)).cell? ⟨g,2,none⟩=some (.bool gw):=by have:=cc 2 _ rfl;simpa using this
 have y3:(W.alloc (.cells #[.int .i64 f,.int .i64 t] 56)).cell? ⟨g,3,none⟩=some (.bool gu):=by have:=cc 3 _ rfl;simpa using this
 have y4:(W.alloc (.cells #[.int .i64 f,.int .i64 t] 56)).cell? ⟨g,4,none⟩=some (.bool gx):=by have:=cc 4 _ rfl;simpa using this
 have y5:(W.alloc (.cells #[.int .i64 f,.int .i64 t] 56)).cell? ⟨g,5,none⟩=some (.int .i64 0):=by have:=cc 5 _ rfl;simpa using this
 have c2:(W.alloc (.cells #[.int .i64 f,.int .i64 t] 56)).cell? ⟨a.sb,2,none⟩=some (.slice (some ⟨g,0,none⟩) 1 a.rc):=by
  have q:(W.alloc (.cells #[.int .i64 f,.int .i64 t] 56)).cell? ⟨a.sb,2,none⟩=some (.slice a.rp a.L.length a.rc):=sa.blk.cell 2
  rw [hr,hL] at q;exact q
 have c1:1<=a.rc:=by have:=sa.cap;rw [hL] at this;simpa using this
 have HB:Hid (Below W.heap.size W (W.alloc (.cells #[.int .i64 f,.int .i64 t] 56))):=bb
 generalize a.rc=rc at c2 c1
 clear h sa cc hr hL bb
 go_enter Tryz.func50,Tryz.ntmps50
 go_upto_region 1 with fail
 generalize (W.alloc (.cells #[.int .i64 f,.int .i64 t] 56))=W0 at *
 go_wp2_with fail
 refine wp_loop_rounds 3 ?_
 rw [rounds_succ]
 go_wp2_with fail
 rw [rounds_succ]
 go_wp2_with fail
 go_returns
 exact ⟨rfl,below_new HB.out _⟩
end Go.Proofs.YthmobfelhpbllaaGreatDoor.Sp
namespace Go.Proofs.YthmobfelhpbllaaGreatDoor.Sp
open Go.ChangeShapes Go.WideShapes Go.ChangeAt Go.RowKit Go.Maps
open Go.Proofs.YthmobfelhpbllaaGreatDoor.Tt
set_option linter.unusedSimpArgs false
set_option linter.unusedVariables false
set_option maxRecDepth 8000
theorem rt_give {m:Pm} {s:Ps} {k f root:Nat} {tab:Nat->Nat->Option Nat} {lf:Nat->Option Lf} (H:Rt m s root tab lf) (hn: ∀ l x,tab l x≠some f):Rt m (giveS s k f) root tab lf:=⟨H.pw,H.fu,fun l x g e=>by
 obtain ⟨a,b,c⟩:=H.ow l x g e
 have ne:g≠f:=fun q=>hn l x (by rw [<- q];exact e)
 refine ⟨a,?_,fun q=> ?_⟩
 . show Bd.setF s.G f none g=some 0
   unfold Bd.setF
   rw [if_neg (by omega)];exact b
 . rcases q with q | q
   . exact c q
   . exact ne q⟩
def Released (Y:Nat->Prop) (O:Nat->Nat) (n:Nat) (W w':World) (M:Mb) (m:Pm) (s:Ps) (T:Nat->Tl.Ln) (S:Pc.Tg) (a:Sr) (p:Nat) (ro u:Int) (fr:Nat):Prop :=
 ∃ (s':Ps) (tab':Nat->Nat->Option Nat),Mc Y O n w' M m s' T S [{ a with tab:=tab',lf:=lfSet a.lf p none,lt:=Pc.setF a.lt p none }]/\Nums m s' a.k (ro+1+(tabsN (pgs a.lf):Int)-tabsN (pgs (lfSet a.lf p none))) (u-1-(tabsN (pgs a.lf):Int)+tabsN (pgs (lfSet a.lf p none))) (fr+1+tabsN (pgs a.lf)-tabsN (pgs (lfSet a.lf p none)))/\s'.q<=s.q+10/\Kx Y W w'
set_option maxHeartbeats 4000000 in
theorem release_one {Y:Nat->Prop} {O:Nat->Nat} {n:Nat} {W:World} {M:Mb} {m:Pm} {s:Ps} {T:Nat->Tl.Ln} {S:Pc.Tg} {a:Sr} (h:Mc Y O n W M m s T S [a]) (p:Nat) (hp:p<34359738368) {v:Lf} (hv:a.lf p=some v) (hall: ∀ x,lfSet a.lf p none x=none) {ro u:Int} {fr:Nat} (hN:Nums m s a.k ro u fr) (hu:1+(tabsN (pgs a.lf):Int)<=u) (htt:tabsN (pgs (lfSet a.lf p none))<=tabsN (pgs a.lf)) (hq:s.q<3000000000000000000) (wi:(Lit.int .i64 a.id).wf=true) (hT:S.T a.id=none) (g o c:Nat) (yg:Y g) (cg:W.cell? ⟨g,o,none⟩=some (.int .i64 p)) :
 Calls Tryz.prog 52 #[pp M.mb,.int .i64 a.id,pp a.sb,.slice (some ⟨g,o,none⟩) 1 c] W fun e w'=>e=.returned (.tuple #[])/\Released Y O n W w' M m s T S a p ro u fr:=by
 have ma:=List.mem_cons_self (a:=a) (l:=[])
 obtain ⟨f,hvf,gf,nf,ntab⟩:=(h.dat a ma p v hv).2
 have HM:Hid (Mc Y O n W M m s T S [a]):=h
 have HH:Hid (p<34359738368/\a.lf p=some v/\(∀ x,lfSet a.lf p none x=none)/\Nums m s a.k ro u fr/\1+(tabsN (pgs a.lf):Int)<=u/\tabsN (pgs (lfSet a.lf p none))<=tabsN (pgs a.lf)/\s.q<3000000000000000000):=⟨hp,hv,hall,hN,hu,htt,hq⟩
 have HF:Hid (v.f=(f:Nat)/\s.G f=some 0/\ ¬ s.Fr f/\(∀ l x,a.tab l x≠some f)/\Y g/\f<1000000):=⟨hvf,gf,nf,ntab a ma,yg,by have:=h.pu.so.gb f (by rw [gf];rfl);omega⟩
 have PC:Hid _:=purse_any M.mb m.rb m.b m.tb a.k _ _ _ _ W h.mac
 have FC:Hid (∀ (w:World) (n':Nat) (s':Ps) (x:Sr),Mc Y O n' w M m s' T S [x]->Calls Tryz.prog 65 #[pp M.mb,.int .i64 a.id,.int .i64 p] w fun e w'=>e=.returned (.tuple #[])/\Below w.heap.size w w'):=fun w n' s' x hx=>forget_none hx a.id p wi hT
 have c0:W.cell? ⟨a.sb,0,none⟩=some (.int .i64 a.k):=(h.sp a ma).blk.cell 0
 have CG:Hid (W.cell? ⟨g,o,none⟩=some (.int .i64 p)):=cg
 clear h hp hv hall hN hu htt hq wi hT yg cg hvf gf nf ntab
 go_enter Tryz.func52,Tryz.ntmps52
 go_wp2_with fail
 refine Calls.mono PC.out ?_
 rintro e w1 ⟨rfl,hb1⟩
 have HB1:Hid (Below W.heap.size W w1):=hb1
 clear hb1 PC c0
 have G2:Hid (Below w1.heap.size w1 (w1.alloc (.cells #[pp m.rb,pp m.b,pp m.tb,.int .i64 a.k] 102))/\Blk (w1.alloc (.cells #[pp m.rb,pp m.b,pp m.tb,.int .i64 a.k] 102)) w1.heap.size [pp m.rb,pp m.b,pp m.tb,.int .i64 a.k] 102):=⟨Go.Joins.below_alloc1 _ _,Blk.made _ _ _⟩
 go_upto_region 1 with fail
 generalize (w1.alloc (.cells #[pp m.rb,pp m.b,pp m.tb,.int .i64 a.k] 102))=w2 at G2 |-
 obtain ⟨r,hr⟩: ∃ r,r=w1.heap.size:=⟨_,rfl⟩
 have M2:Hid (Mc (fun j=>Y j\/(w1.heap.size<=j/\j<w2.heap.size)) O n w2 M m s T S [a]):=(HM.out.below HB1.out).grow G2.out.1
 have RR:Hid ((Y r\/(w1.heap.size<=r/\r<w2.heap.size))/\O a.sb≠0):=⟨Or.inr ⟨by omega,by have:=G2.out.2.lt;omega⟩,by rw [(M2.out.sp a ma).o1];omega⟩
 have BS:Hid (Blk w2 r [pp m.rb,pp m.b,pp m.tb,.int .i64 a.k] 102/\Blk w2 a.sb [.int .i64 a.k,.int .i64 a.root,.slice a.rp a.L.length a.rc,.map (some a.lb)] 105):=⟨by rw [hr];exact G2.out.2,(M2.out.sp a ma).blk⟩
 rw [<- hr]
 clear hr
 have cgp:w2.cell? ⟨g,o,none⟩=some (.int .i64 p):=by
  have lg:=HM.out.pu.lt g (Or.inl HF.out.2.2.2.2.1)
  rw [(below_then HB1.out G2.out.1).cell (p:=⟨g,o,none⟩) lg];exact CG.out
 obtain ⟨tb,htb⟩: ∃ tb:Nat,tb=tabsN (pgs a.lf):=⟨_,rfl⟩
 obtain ⟨R,hR⟩: ∃ R:Int,R=ro+(tb:Int):=⟨_,rfl⟩
 obtain ⟨UU,hU⟩: ∃ UU:Int,UU=u-(tb:Int):=⟨_,rfl⟩
 obtain ⟨F,hFF⟩: ∃ F:Nat,F=fr+tb:=⟨_,rfl⟩
 have KC:Hid (∀ w:World,Below w2.heap.size w2 w->Calls Tryz.prog 64 #[pv m a.k,.int .i64 a.root,.int .i64 p] w fun e w'=>e=.returned (.tuple #[.int .i64 f,.int .i64 0])/\StTo (fun j=>(Y j\/(w1.heap.size<=j/\j<w2.heap.size))\/O j≠0) m a.root a.k R UU F s a.tab (lfSet a.lf p none) w w'):=fun w hb=>by
  obtain ⟨h1,h2,h3,h4,h5,h6,h7⟩:=HH.out
  have st:St (fun j=>(Y j\/(w1.heap.size<=j/\j<w2.heap.size))\/O j≠0) m a.root a.k R UU F s a.tab a.lf w:=⟨M2.out.pu.below hb,M2.out.rt a ma,by
   rw [<- htb,show R-(tb:Int)=ro by omega,show UU+(tb:Int)=u by omega,show F-tb=fr by omega];exact h4,by rw [<- htb];omega⟩
  have q:=st.unmap_ok (by omega) (by omega) p h2
  rw [HF.out.1] at q
  exact q
 go_wp2_with fail
 refine wp_loop_rounds 3 ?_
 rw [rounds_succ]
 go_upto_region 4 with fail
 clear cgp
 refine wp_region_noPanic ?_
 refine wp_region_held_drew (S:=fun cw=>Blk cw r [pp m.rb,pp m.b,pp m.tb,.int .i64 a.k] 102/\Blk cw a.sb [.int .i64 a.k,.int .i64 a.root,.slice a.rp a.L.length a.rc,.map (some a.lb)] 105) (by kernel_rfl) ?_ (fun hHeld=> ?_)
 . exact BS.out
 have KU:Hid (Below w2.heap.size w2 w2.drew):=below_drew (Below.refl _ _)
 clear BS
 generalize w2.drew=U at hHeld KU |-
 refine tk 0 26 (.agg #[pp m.rb,pp m.b,pp m.tb,.int .i64 a.k]) rfl (Or.inl ⟨by rfl,?_⟩) ?_
 . intro w hSw;(try dsimp only at hSw);have r0:=Blk.cell hSw.1 0;have r1:=Blk.cell hSw.1 1;have r2:=Blk.cell hSw.1 2;have r3:=Blk.cell hSw.1 3;(try go_simp);(try simp [*])
 try simp only [Act.put,z1,z2,z3]
 refine tk 1 27 ?_ rfl (Or.inl ⟨by rfl,?_⟩) ?_
 rotate_left
 . intro w hSw;(try dsimp only at hSw);go_simp;(try with_reducible rfl)
 try simp only [Act.put,z1,z2,z3]
 refine tk 2 28 ?_ rfl (Or.inl ⟨by rfl,?_⟩) ?_
 rotate_left
 . intro w hSw;(try dsimp only at hSw);go_simp;(try with_reducible rfl)
 try simp only [Act.put,z1,z2,z3]
 refine tk 3 29 ?_ rfl (Or.inl ⟨by rfl,?_⟩) ?_
 rotate_left
 . intro w hSw;(try dsimp only at hSw);go_simp;(try with_reducible rfl)
 try simp only [Act.put,z1,z2,z3]
 refine tk 4 30 (.int .i64 a.root) rfl (Or.inl ⟨by rfl,?_⟩) ?_
 . intro w hSw;(try dsimp only at hSw);have r:=Blk.cell hSw.2 1;(try go_simp);(try simp [*])
 try simp only [Act.put,z1,z2,z3]
 refine tk 5 31 ?_ rfl (Or.inl ⟨by rfl,?_⟩) ?_
 rotate_left
 . intro w hSw;(try dsimp only at hSw);go_simp;(try with_reducible rfl)
 try simp only [Act.put,z1,z2,z3]
 refine wpAnyH_ready (rs:=[6]) (by kernel_rfl) (by simp) ?_
 refine AllReadyH.cons (o:=⟨some 32,_,_,_,_,none⟩) rfl (fun K hK=> ?_) AllReadyH.nil
 go_simp
 go_wp2_with (go_at_call 64;refine Calls.mono (KC.out _ KU.out) ?_;rintro e u2 ⟨rfl,s2,tab2,hS,hq2,hA,hKx⟩)
 have E2:Hid (St (fun j=>(Y j\/(w1.heap.size<=j/\j<w2.heap.size))\/O j≠0) m a.root a.k R UU F s2 tab2 (lfSet a.lf p none) u2/\s2.q<=s.q+10/\Apt s s2 a.tab tab2/\Kx (fun j=>(Y j\/(w1.heap.size<=j/\j<w2.heap.size))\/O j≠0) w2 u2/\Blk u2 r [pp m.rb,pp m.b,pp m.tb,.int .i64 a.k] 102):=⟨hS,hq2,hA,(kept_of_below KU.out (fun j hj=>M2.out.pu.lt j hj)).trans hKx,hHeld.1.kx hKx (Or.inl RR.out.1)⟩
 refine hK.out _ _ ⟨hHeld.1.kx hKx (Or.inl RR.out.1),hHeld.2.kx hKx (Or.inr RR.out.2)⟩ (fun hHeld2=> ?_)
 clear hK K hHeld hS hq2 hA hKx KU
 have hHeld:=hHeld2
 clear hHeld2
 try simp only [Act.put,z1,z2,z3]
 refine tk 7 25 ?_ rfl (Or.inl ⟨by rfl,?_⟩) ?_
 rotate_left
 . intro w hSw;(try dsimp only at hSw);go_simp;(try with_reducible rfl)
 try simp only [Act.put,z1,z2,z3]
 refine tk 8 33 ?_ rfl (Or.inl ⟨by rfl,?_⟩) ?_
 rotate_left
 . intro w hSw;(try dsimp only at hSw);go_simp;(try with_reducible rfl)
 try simp only [Act.put,z1,z2,z3]
 refine tk 9 34 ?_ rfl (Or.inl ⟨by rfl,?_⟩) ?_
 rotate_left
 . intro w hSw;(try dsimp only at hSw);go_simp;(try with_reducible rfl)
 try simp only [Act.put,z1,z2,z3]
 refine tk 10 11 ?_ rfl (Or.inl ⟨by rfl,?_⟩) ?_
 rotate_left
 . intro w hSw;(try dsimp only at hSw);go_simp;(try with_reducible rfl)
 try simp only [Act.put,z1,z2,z3]
 refine tk 11 12 ?_ rfl (Or.inl ⟨by rfl,?_⟩) ?_
 rotate_left
 . intro w hSw;(try dsimp only at hSw);go_simp;(try with_reducible rfl)
 try simp only [Act.put,z1,z2,z3]
 clear hHeld
 refine wpAnyH_done (by kernel_rfl) ?_ _
 refine NoPanic.normal ?_
 obtain ⟨t2,ht2⟩: ∃ t2:Nat,t2=tabsN (pgs (lfSet a.lf p none)):=⟨_,rfl⟩
 have M3:Hid (Mc (fun j=>Y j\/(w1.heap.size<=j/\j<w2.heap.size)) O n u2 M m s2 T S [{ a with tab:=tab2,lf:=lfSet a.lf p none }]/\Nums m s2 a.k (R-t2) (UU+t2) (F-t2)/\s2.G f=some 0/\ ¬ s2.Fr f/\(∀ l x,tab2 l x≠some f)/\s2.q<=s.q+10/\Kx Y W u2):=by
  obtain ⟨hS,hq2,hA,hK2,_⟩:=E2.out
  obtain ⟨e1,e2,e3,e4,_⟩:=HF.out
  obtain ⟨g1,g2,_⟩:=hA.oth f e4 e3
  refine ⟨M2.out.tabs hK2 hS.pu hS.rt hA (fun p' v e=>by rw [HH.out.2.2.1] at e;cases e),by rw [ht2];exact hS.nm,by rw [g1];exact e2,g2,fun l x e=> ?_,hq2,?_⟩
  . rcases hA.new l x f e with q | q
    . exact e4 l x q
    . exact e3 q
  . exact Kept.trans (kept_of_below HB1.out (fun j hj=>HM.out.pu.lt j (Or.inl hj))) (Kept.trans (kept_of_below G2.out.1 (fun j hj=>(HM.out.below HB1.out).pu.lt j (Or.inl hj))) (hK2.sub (fun j hj=>Or.inl (Or.inl hj))))
 have GC:Hid (Calls Tryz.prog 91 #[pv m a.k,.int .i64 f] u2 fun e w'=>e=.returned (.tuple #[])/\Pu (fun j=>(Y j\/(w1.heap.size<=j/\j<w2.heap.size))\/O j≠0) w' m (giveS s2 a.k f)/\Kx (fun j=>(Y j\/(w1.heap.size<=j/\j<w2.heap.size))\/O j≠0) u2 w'):=by
  obtain ⟨q1,q2,q3,q4,_⟩:=M3.out
  have h5:=HH.out.2.2.2.2.1
  exact give_any q1.pu a.k f q2.k6 q2.live (by rw [q2.used];omega) q3 q4
 have BR:=E2.out.2.2.2.2
 have r0:u2.cell? ⟨r,0,none⟩=some (pp m.rb):=BR.cell 0
 have r1:u2.cell? ⟨r,1,none⟩=some (pp m.b):=BR.cell 1
 have r2:u2.cell? ⟨r,2,none⟩=some (pp m.tb):=BR.cell 2
 have r3:u2.cell? ⟨r,3,none⟩=some (.int .i64 a.k):=BR.cell 3
 clear BR KC E2
 go_wp2_with fail
 refine Calls.mono GC.out ?_
 rintro e u3 ⟨rfl,hp3,hk3⟩
 have M4:Hid (Mc (fun j=>Y j\/(w1.heap.size<=j/\j<w2.heap.size)) O n u3 M m (giveS s2 a.k f) T S [{ a with tab:=tab2,lf:=lfSet a.lf p none }]/\Nums m (giveS s2 a.k f) a.k (R-t2+1) (UU+t2-1) (F-t2+1)/\Kx Y W u3):=by
  obtain ⟨q1,q2,q3,q4,q5,q6,q7⟩:=M3.out
  refine ⟨q1.next hk3 hp3 (fun x hx=> ?_) (fun x hx p' v e=> ?_),q2.give HF.out.2.2.2.2.2 q4 s2.M s2.q,q7.trans (hk3.sub (fun j hj=>Or.inl (Or.inl hj)))⟩
  . obtain rfl:=List.mem_singleton.1 hx
    exact rt_give (q1.rt _ hx) q5
  . obtain rfl:=List.mem_singleton.1 hx
    have e:lfSet a.lf p none p'=some v:=e
    rw [HH.out.2.2.1] at e;cases e
 clear hp3 hk3 GC r0 r1 r2 r3
 obtain ⟨cm,hcm⟩:=(M4.out.1.sp _ (List.mem_cons_self ..)).map
 obtain ⟨u4,hdel,hm4,hg4⟩:=hcm.del (k:=(p:Int)) (wf64 (by omega) (by have:=HH.out.1;omega)) 0
 have hdel:(Builtin.delete_ #[87,3] 0 #[.map (some a.lb),.int .i64 p]).run Tryz.prog u3=.ok (.tuple #[]) u4:=hdel
 have M5:Hid (Mc Y O n u4 M m (giveS s2 a.k f) T S [{ a with tab:=tab2,lf:=lfSet a.lf p none,lt:=Pc.setF a.lt p none }]/\Kx Y W u4):=by
  obtain ⟨q1,q2⟩:=M4.out.1.lent hg4 hm4
  exact ⟨q1.less (fun j hj=>Or.inl hj) HM.out.y0,M4.out.2.2.trans (q2.sub (fun j hj=>Or.inl hj))⟩
 have c3:u3.cell? ⟨a.sb,3,none⟩=some (.map (some a.lb)):=(M4.out.1.sp _ (List.mem_cons_self ..)).blk.cell 3
 clear hcm hm4 hg4
 go_wp2_with fail
 refine Calls.mono (FC.out _ _ _ _ M5.out.1) ?_
 rintro e u5 ⟨rfl,hb5⟩
 have HE:Hid (Released Y O n W u5 M m s T S a p ro u fr):=by
  obtain ⟨q1,q2⟩:=M5.out
  obtain ⟨_,n2,_⟩:=M4.out
  have h6:=HH.out.2.2.2.2.2.1
  refine ⟨giveS s2 a.k f,tab2,q1.below hb5,?_,M3.out.2.2.2.2.2.1,q2.trans (kept_of_below hb5 (fun j hj=>q1.pu.lt j (Or.inl hj)))⟩
  rw [<- ht2,<- htb,show ro+1+(tb:Int)-t2=R-t2+1 by omega,show u-1-(tb:Int)+t2=UU+t2-1 by omega,show fr+1+tb-t2=F-t2+1 by omega]
  exact n2
 clear hb5 c3 M5 M4 M3 FC htb hR hU hFF ht2 RR
 go_wp2_with fail
 rw [rounds_succ]
 go_wp2_with fail
 go_end0
 exact ⟨rfl,HE.out⟩
end Go.Proofs.YthmobfelhpbllaaGreatDoor.Sp
namespace Go.Proofs.YthmobfelhpbllaaGreatDoor.Sp
open Go.ChangeShapes Go.WideShapes Go.ChangeAt Go.RowKit Go.Maps
open Go.Proofs.YthmobfelhpbllaaGreatDoor.Tt
set_option linter.unusedSimpArgs false
set_option linter.unusedVariables false
set_option maxRecDepth 8000
set_option maxHeartbeats 1000000 in
theorem pages_none {Y:Nat->Prop} {O:Nat->Nat} {n:Nat} {W:World} {M:Mb} {m:Pm} {s:Ps} {T:Nat->Tl.Ln} {S:Pc.Tg} {a:Sr} {B:List Sr} (h:Mc Y O n W M m s T S (a::B)) (hn:a.lf=fun _=>none) (wi:(Lit.int .i64 a.id).wf=true) :
 Calls Tryz.prog 17 #[pp M.mb,.int .i64 a.id] W fun e w'=> ∃ pf cf,e=.returned (.slice pf 0 cf)/\Below W.heap.size W w':=by
 have ma:=List.mem_cons_self (a:=a) (l:=B)
 have lk:(Instr.lookup 43 (.map (some M.sm)) (.int .i64 a.id) false).run Tryz.prog W=.ok (.pointer (some ⟨a.sb,0,none⟩)) W:=by
  have q:=h.map.look wi
  rw [spF_head] at q;exact q
 have c6:W.cell? ⟨M.mb,6,none⟩=some (.map (some M.sm)):=h.mac.cell 6
 have PC:Hid (∀ w:World,Blk w M.mb [pp m.rb,pp m.b,pp m.tb,pp M.tl,pp M.tg,.int .i64 M.kf,.map (some M.sm)] 45->_):=fun w hb=>purse_any M.mb m.rb m.b m.tb a.k _ _ _ _ w hb
 have QC:Hid (∀ w:World,Below W.heap.size W w->Calls Tryz.prog 42 #[pv m a.k,.int .i64 a.root] w fun e w'=> ∃ pf cf,e=.returned (.slice pf 0 cf)/\Below w.heap.size w w'):=fun w hb=>by
  have rt:=h.rt a ma
  rw [hn] at rt
  refine (pages_any (h.pu.below hb) rt a.k (by rw [pgs_none];simp)).mono ?_
  rintro e w' ⟨pf,nn,cf,he,hl⟩
  rw [pgs_none] at hl
  exact ⟨pf,cf,by have q:=hl.len;rw [he,q];rfl,hl.bel⟩
 have BS:Hid (Blk W M.mb [pp m.rb,pp m.b,pp m.tb,pp M.tl,pp M.tg,.int .i64 M.kf,.map (some M.sm)] 45/\Blk W a.sb [.int .i64 a.k,.int .i64 a.root,.slice a.rp a.L.length a.rc,.map (some a.lb)] 105):=⟨h.mac,(h.sp a ma).blk⟩
 clear h hn wi
 go_enter Tryz.func17,Tryz.ntmps17
 go_upto_region 4 with fail
 clear lk c6
 refine wp_region_noPanic ?_
 refine wp_region_held_drew (S:=fun cw=>Blk cw M.mb [pp m.rb,pp m.b,pp m.tb,pp M.tl,pp M.tg,.int .i64 M.kf,.map (some M.sm)] 45/\Blk cw a.sb [.int .i64 a.k,.int .i64 a.root,.slice a.rp a.L.length a.rc,.map (some a.lb)] 105) (by kernel_rfl) ?_ (fun hHeld=> ?_)
 . exact BS.out
 have KU:Hid (Below W.heap.size W W.drew):=below_drew (Below.refl _ _)
 clear BS
 generalize W.drew=U at hHeld KU |-
 refine tk 0 14 ?_ rfl (Or.inl ⟨by rfl,?_⟩) ?_
 rotate_left
 . intro w hSw;(try dsimp only at hSw);go_simp;(try with_reducible rfl)
 try simp only [Act.put,List.setIfInBounds_toArray,List.set_cons_zero,List.set_cons_succ]
 refine tk 1 15 ?_ rfl (Or.inl ⟨by rfl,?_⟩) ?_
 rotate_left
 . intro w hSw;(try dsimp only at hSw);go_simp;(try with_reducible rfl)
 try simp only [Act.put,List.setIfInBounds_toArray,List.set_cons_zero,List.set_cons_succ]
 refine tk 2 16 ?_ rfl (Or.inl ⟨by rfl,?_⟩) ?_
 rotate_left
 . intro w hSw;(try dsimp only at hSw);go_simp;(try with_reducible rfl)
 try simp only [Act.put,List.setIfInBounds_toArray,List.set_cons_zero,List.set_cons_succ]
 refine tk 3 17 ?_ rfl (Or.inl ⟨by rfl,?_⟩) ?_
 rotate_left
 . intro w hSw;(try dsimp only at hSw);go_simp;(try with_reducible rfl)
 try simp only [Act.put,List.setIfInBounds_toArray,List.set_cons_zero,List.set_cons_succ]
 refine tk 4 18 (.int .i64 a.k) rfl (Or.inl ⟨by rfl,?_⟩) ?_
 . intro w hSw;(try dsimp only at hSw);have r:=Blk.cell hSw.2 0;(try go_simp);(try simp [*])
 try simp only [Act.put,List.setIfInBounds_toArray,List.set_cons_zero,List.set_cons_succ]
 refine tk 6 20 ?_ rfl (Or.inl ⟨by rfl,?_⟩) ?_
 rotate_left
 . intro w hSw;(try dsimp only at hSw);go_simp;(try with_reducible rfl)
 try simp only [Act.put,List.setIfInBounds_toArray,List.set_cons_zero,List.set_cons_succ]
 refine tk 7 21 ?_ rfl (Or.inl ⟨by rfl,?_⟩) ?_
 rotate_left
 . intro w hSw;(try dsimp only at hSw);go_simp;(try with_reducible rfl)
 try simp only [Act.put,List.setIfInBounds_toArray,List.set_cons_zero,List.set_cons_succ]
 refine tk 8 22 ?_ rfl (Or.inl ⟨by rfl,?_⟩) ?_
 rotate_left
 . intro w hSw;(try dsimp only at hSw);go_simp;(try with_reducible rfl)
 try simp only [Act.put,List.setIfInBounds_toArray,List.set_cons_zero,List.set_cons_succ]
 refine tk 9 23 (.int .i64 a.root) rfl (Or.inl ⟨by rfl,?_⟩) ?_
 . intro w hSw;(try dsimp only at hSw);have r:=Blk.cell hSw.2 1;(try go_simp);(try simp [*])
 try simp only [Act.put,List.setIfInBounds_toArray,List.set_cons_zero,List.set_cons_succ]
 refine wpAnyH_ready (rs:=[5]) (by kernel_rfl) (by simp) ?_
 refine AllReadyH.cons (o:=⟨some 19,_,_,_,_,none⟩) rfl (fun K hK=> ?_) AllReadyH.nil
 go_simp
 go_wp2_with (go_at_call 39;refine Calls.mono (PC.out _ hHeld.1) ?_;rintro e u1 ⟨rfl,hb1⟩)
 have KU1:Hid (Below W.heap.size W u1):=below_then KU.out hb1
 refine hK.out _ _ ⟨hHeld.1.below hb1,hHeld.2.below hb1⟩ (fun hHeld2=> ?_)
 clear hK K hHeld hb1 KU
 have hHeld:=hHeld2
 clear hHeld2
 try simp only [Act.put,List.setIfInBounds_toArray,List.set_cons_zero,List.set_cons_succ]
 refine wpAnyH_ready (rs:=[10]) (by kernel_rfl) (by simp) ?_
 refine AllReadyH.cons (o:=⟨some 24,_,_,_,_,none⟩) rfl (fun K hK=> ?_) AllReadyH.nil
 go_simp
 go_wp2_with (go_at_call 42;refine Calls.mono (QC.out _ KU1.out) ?_;rintro e u2 ⟨pf,cf,rfl,hb2⟩)
 have KU2:Hid (Below W.heap.size W u2):=below_then KU1.out hb2
 refine hK.out _ _ ⟨hHeld.1.below hb2,hHeld.2.below hb2⟩ (fun hHeld2=> ?_)
 clear hK K hHeld hb2 KU1
 have hHeld:=hHeld2
 clear hHeld2
 try simp only [Act.put,List.setIfInBounds_toArray,List.set_cons_zero,List.set_cons_succ]
 refine tk 11 4 ?_ rfl (Or.inl ⟨by rfl,?_⟩) ?_
 rotate_left
 . intro w hSw;(try dsimp only at hSw);go_simp;(try with_reducible rfl)
 try simp only [Act.put,List.setIfInBounds_toArray,List.set_cons_zero,List.set_cons_succ]
 clear hHeld
 refine wpAnyH_done (by kernel_rfl) ?_ _
 refine NoPanic.normal ?_
 go_wp2_with fail
 go_returns
 exact ⟨pf,cf,rfl,KU2.out⟩
set_option maxHeartbeats 1000000 in
theorem clone_none (p:Option Addr) (c:Nat) (hp: ∀ x,p=some x-> ∃ g,x=⟨g,0,none⟩) (w:World):Calls Tryz.prog 53 #[.slice p 0 c] w fun e w'=> ∃ pf cf,e=.returned (.slice pf 0 cf)/\Below w.heap.size w w':=by
 cases p with
 | none =>
  have e1: ∀ w:World,(binOp .eql 66 (.slice none 0 c) (.slice none 0 0)).run Tryz.prog w=.ok (.bool true) w:=fun w=>by kernel_rfl
  go_enter Tryz.func53,Tryz.ntmps53
  go_wp2_with fail
  go_returns
  exact ⟨none,0,rfl,Below.refl _ _⟩
 | some x =>
  obtain ⟨g,rfl⟩:=hp x rfl
  have e1: ∀ w:World,(binOp .eql 66 (.slice (some ⟨g,0,none⟩) 0 c) (.slice none 0 0)).run Tryz.prog w=.ok (.bool false) w:=fun w=>by kernel_rfl
  obtain ⟨i0,hi,hz0,hz1,hz2⟩:=Re.info5 Re.rg_info5
  obtain ⟨v',W2,r2,ho,hg,_⟩:=Li.app_all (enc:=Re.Rg.enc) (k:=6) (fun _=>rfl) (fun x u hu=>by unfold Re.Rg.enc at hu;simp at hu;rcases hu with rfl | rfl | rfl | rfl | rfl | rfl <;> rfl) (by decide) Tryz.underlying66 ⟨i0,hi,hz0,hz1,hz2⟩ rfl (by decide) w.heap.size (.slice (some ⟨w.heap.size,0,none⟩) 0 0) [] [] g 0 0 c rfl (by simp) (w.alloc (.cells #[] 114)) (Li.ol_made w w.heap.size (Nat.le_refl _)) (fun i hi=>absurd hi (Nat.not_lt_zero _)) (by rw [World.size_alloc];omega)
  have HE:Hid (Below w.heap.size w W2):=by
   have b0:Below w.heap.size w (w.alloc (.cells #[] 114)):=Go.Joins.below_alloc1 _ _
   exact ⟨hg.os.trans b0.os,hg.tape.trans b0.tape,hg.output.trans b0.output,Nat.le_trans b0.size hg.size,fun j hj=>(hg.block j (by rw [World.size_alloc];omega) (fun e=>by have e:some j=some w.heap.size:=e;have:=Option.some.inj e;omega)).trans (b0.block j hj)⟩
  obtain ⟨pf,cf,rfl⟩: ∃ pf cf,v'=.slice pf 0 cf:=by
   obtain ⟨p,c,e,_⟩:=(Li.ol_ll (enc:=Re.Rg.enc) (k:=6) (fun _=>rfl) ho).form
   exact ⟨p,c,e⟩
  clear ho hg
  go_enter Tryz.func53,Tryz.ntmps53
  go_wp2_with (at_builtin;refine Li.wpList_app rfl _ _ 66 rfl (.slice (some ⟨w.heap.size,0,none⟩) 0 0) (.slice (some ⟨g,0,none⟩) 0 c) rfl rfl (.slice pf 0 cf) W2 r2 ?_)
  go_returns
  exact ⟨pf,cf,rfl,HE.out⟩
set_option maxHeartbeats 1000000 in
theorem regions_none {Y:Nat->Prop} {O:Nat->Nat} {n:Nat} {W:World} {M:Mb} {m:Pm} {s:Ps} {T:Nat->Tl.Ln} {S:Pc.Tg} {a:Sr} {B:List Sr} (h:Mc Y O n W M m s T S (a::B)) (hL:a.L=[]) (hr: ∀ x,a.rp=some x-> ∃ g,x=⟨g,0,none⟩) (wi:(Lit.int .i64 a.id).wf=true) :
 Calls Tryz.prog 21 #[pp M.mb,.int .i64 a.id] W fun e w'=> ∃ pf cf,e=.returned (.slice pf 0 cf)/\Below W.heap.size W w':=by
 have ma:=List.mem_cons_self (a:=a) (l:=B)
 have lk:(Instr.lookup 43 (.map (some M.sm)) (.int .i64 a.id) false).run Tryz.prog W=.ok (.pointer (some ⟨a.sb,0,none⟩)) W:=by
  have q:=h.map.look wi
  rw [spF_head] at q;exact q
 have c6:W.cell? ⟨M.mb,6,none⟩=some (.map (some M.sm)):=h.mac.cell 6
 have c2:W.cell? ⟨a.sb,2,none⟩=some (.slice a.rp 0 a.rc):=by
  have q:W.cell? ⟨a.sb,2,none⟩=some (.slice a.rp a.L.length a.rc):=(h.sp a ma).blk.cell 2
  rw [hL] at q;exact q
 have CC:Hid (∀ w:World,_):=fun w=>clone_none a.rp a.rc hr w
 generalize a.rp=rp at c2 CC
 clear h hL hr wi
 go_enter Tryz.func21,Tryz.ntmps21
 go_wp2_with fail
 refine Calls.mono (CC.out _) ?_
 rintro e w1 ⟨pf,cf,rfl,hb1⟩
 have HB:Hid (Below W.heap.size W w1):=hb1
 clear hb1 CC c2 c6 lk
 go_wp2_with fail
 go_returns
 exact ⟨pf,cf,rfl,HB.out⟩
theorem cut_new (p:Option Addr) (c:Nat) (L:List Re.Rg) (hL:L.length<=100) (f t:Int) (hE:Re.checkN L f t=0) (M:List Re.Rg) (hM:Re.chg (fun _=>Re.Rg.zero) f t L=M) (h64:M.length<=64) (w:World) (h:Re.IsL w 0 p L) :
 Calls Tryz.prog 48 #[.slice p L.length c,.agg #[.int .i64 f,.int .i64 t]] w fun e w'=> ∃ p' c',e=.returned (.tuple #[.slice p' M.length c',.int .i64 0])/\Below w.heap.size w w'/\(∀ x,p'=some x-> ∃ g,x=⟨g,0,none⟩)/\M.length<=c' :=
 (Re.cut_any 0 p c L hL f t w h).mono fun e w' ⟨v,er,h1,h2,h3⟩=>by
  rw [hM] at h2
  rcases h2 with ⟨q,_⟩ | ⟨_,⟨q1,q2,q3⟩ | ⟨q1,_⟩⟩
  . exact absurd hE q
  . obtain ⟨p',c',k1,k2,k3⟩:=Re.own_readb q3
    refine ⟨p',c',by rw [h1,k1,q2],h3,fun x ex=> ?_,k2⟩
    rcases q3.2 with ⟨z1,z2⟩ | ⟨g,cap,cur,e1,_⟩
    . rw [k1,ex] at z1;cases z1
    . rw [k1,ex] at e1;cases e1;exact ⟨g,rfl⟩
  . omega
theorem cut_whole (f t:Int) (w u x:Bool) (h0:0<=f) (h1:f<t) (h2:t<=34359738368) (h3:t-f<=65536):Re.checkN [⟨f,t,w,u,x,0⟩] f t=0/\Re.chg (fun _=>Re.Rg.zero) f t [⟨f,t,w,u,x,0⟩]=[]:=by
 refine ⟨?_,?_⟩
 . unfold Re.checkN
   rw [if_pos (by unfold Re.rightB;simp;omega),if_pos (by simp [Re.goodB,Re.allB,Re.okAt,Re.okR,Re.endAt,List.getD];exact ⟨⟨h0,h1,h2⟩,rfl⟩)]
 . have w0: ∀ (r:Re.Rg),r.tt<=r.fr->Re.withL [] r=[]:=fun r h=>by unfold Re.withL;rw [if_pos h]
   show Re.withL (Re.withL (Re.withL [] _) _) _=[]
   rw [w0 _ (show min t f<=f by omega),w0 _ (show (0:Int)<=0 by omega),w0 _ (show t<=max f t by omega)]
def Unmapped (Y:Nat->Prop) (n:Nat) (W w':World) (M:Mb) (m:Pm) (s:Ps) (T:Nat->Tl.Ln) (S:Pc.Tg) (a:Sr) (p:Nat) (ro u:Int) (fr:Nat):Prop :=
 ∃ (O':Nat->Nat) (s':Ps) (tab':Nat->Nat->Option Nat) (p':Option Addr) (c':Nat),Mc Y O' n w' M m s' T S [{ a with tab:=tab',lf:=lfSet a.lf p none,lt:=Pc.setF a.lt p none,rp:=p',rc:=c',L:=[] }]/\(∀ x,p'=some x-> ∃ g,x=⟨g,0,none⟩)/\Nums m s' a.k (ro+1+(tabsN (pgs a.lf):Int)-tabsN (pgs (lfSet a.lf p none))) (u-1-(tabsN (pgs a.lf):Int)+tabsN (pgs (lfSet a.lf p none))) (fr+1+tabsN (pgs a.lf)-tabsN (pgs (lfSet a.lf p none)))/\Kx Y W w'
set_option maxHeartbeats 4000000 in
theorem unmap_all {Y:Nat->Prop} {O:Nat->Nat} {n:Nat} {W:World} {M:Mb} {m:Pm} {s:Ps} {T:Nat->Tl.Ln} {S:Pc.Tg} {a:Sr} (h:Mc Y O n W M m s T S [a]) (f t:Int) (gw gu gx:Bool) (p:Nat) (f0:0<=f) (fp:f<=(p:Int)) (pt:(p:Int)<t) (t1:t<=34359738368) (t2:t-f<=65536) (hL:a.L=[⟨f,t,gw,gu,gx,0⟩]) (hl:a.lt=Pc.setF Pc.noneF p (some 0)) {v:Lf} (hv:a.lf p=some v) (hall: ∀ x,lfSet a.lf p none x=none) {ro u:Int} {fr:Nat} (hN:Nums m s a.k ro u fr) (hu:1+(tabsN (pgs a.lf):Int)<=u) (htt:tabsN (pgs (lfSet a.lf p none))<=tabsN (pgs a.lf)) (hq:s.q<3000000000000000000) (wi:(Lit.int .i64 a.id).wf=true) (hT:S.T a.id=none) :
 Calls Tryz.prog 20 #[pp M.mb,.int .i64 a.id,.agg #[.int .i64 f,.int .i64 t]] W fun e w'=>e=.returned (.int .i64 0)/\Unmapped Y n W w' M m s T S a p ro u fr:=by
 have ma:=List.mem_cons_self (a:=a) (l:=[])
 obtain ⟨k1,k2⟩:=cut_whole f t gw gu gx f0 (by omega) t1 t2
 rw [<- hL] at k1 k2
 have CC:Hid (∀ w:World,Below (W.alloc (.cells #[.int .i64 f,.int .i64 t] 56)).heap.size (W.alloc (.cells #[.int .i64 f,.int .i64 t] 56)) w->Calls Tryz.prog 48 #[.slice a.rp a.L.length a.rc,.agg #[.int .i64 f,.int .i64 t]] w fun e w'=> ∃ p' c',e=.returned (.tuple #[.slice p' 0 c',.int .i64 0])/\Below w.heap.size w w'/\(∀ x,p'=some x-> ∃ g,x=⟨g,0,none⟩)):=fun w hb=>by
  refine (cut_new a.rp a.rc a.L (by rw [hL];simp) f t k1 [] k2 (by simp) w ((h.sp a ma).lis.below (below_then (Go.Joins.below_alloc1 _ _) hb))).mono ?_
  rintro e w' ⟨p',c',q1,q2,q3,_⟩
  exact ⟨p',c',q1,q2,q3⟩
 have LC:Hid (∀ w:World,Below W.heap.size W w->_):=fun w hb=>led_one (h.below hb) f t p 0 f0 fp pt t1 hl
 have BC:Hid (∀ w:World,Below W.heap.size W w->_):=fun w hb=>borrows_none (h.below hb) f t f t gw gu gx hL
 have NC:Hid (∀ (w:World) (g o c:Nat),Below W.heap.size W w->g<w.heap.size->w.cell? ⟨g,o,none⟩=some (.int .i64 p)->Calls Tryz.prog 51 #[pp a.sb,.slice (some ⟨g,o,none⟩) 1 c] w fun e w'=>e=.returned (.bool false)/\w'=w):=fun w g o c hb lg cg=>by
  have q:=lends_one (h.below hb) p 0 (by omega) (by omega) (by rw [hl];exact Pc.set_same _ _ _) g o c lg cg
  exact q
 have RC:Hid (∀ (Y':Nat->Prop) (w:World) (g o c:Nat),Mc Y' O n w M m s T S [a]->Y' g->w.cell? ⟨g,o,none⟩=some (.int .i64 p)->_):=fun Y' w g o c hw yg cg=>release_one hw p (by omega) hv hall hN hu htt hq wi hT g o c yg cg
 have bb:Below W.heap.size W (W.alloc (.cells #[.int .i64 f,.int .i64 t] 56)):=Go.Joins.below_alloc1 _ _
 have lk:(Instr.lookup 43 (.map (some M.sm)) (.int .i64 a.id) false).run Tryz.prog (W.alloc (.cells #[.int .i64 f,.int .i64 t] 56))=.ok (.pointer (some ⟨a.sb,0,none⟩)) (W.alloc (.cells #[.int .i64 f,.int .i64 t] 56)):=by
  have q:=(h.below bb).map.look wi
  rw [spF_head] at q;exact q
 have HM:Hid (Mc Y O n W M m s T S [a]):=h
 have G0:Hid (Blk (W.alloc (.cells #[.int .i64 f,.int .i64 t] 56)) W.heap.size [.int .i64 f,.int .i64 t] 56/\Below W.heap.size W (W.alloc (.cells #[.int .i64 f,.int .i64 t] 56))):=⟨Blk.made _ _ _,bb⟩
 clear h f0 fp pt t1 t2 hL hl hv hall hN hu htt hq wi hT k1 k2 bb
 go_enter Tryz.func20,Tryz.ntmps20
 go_upto_region 1 with fail
 generalize (W.alloc (.cells #[.int .i64 f,.int .i64 t] 56))=W0 at G0 lk CC |-
 obtain ⟨q,hq⟩: ∃ q,q=W.heap.size:=⟨_,rfl⟩
 have G1:Hid (Blk W0 q [.int .i64 f,.int .i64 t] 56/\Below W.heap.size W W0):=by rw [hq];exact G0.out
 rw [<- hq]
 clear hq G0
 have c6:W0.cell? ⟨M.mb,6,none⟩=some (.map (some M.sm)):=(HM.out.below G1.out.2).mac.cell 6
 go_upto_region 4 with fail
 clear c6 lk
 have BS:Hid (Blk W0 a.sb [.int .i64 a.k,.int .i64 a.root,.slice a.rp a.L.length a.rc,.map (some a.lb)] 105/\Blk W0 q [.int .i64 f,.int .i64 t] 56):=⟨((HM.out.below G1.out.2).sp a ma).blk,G1.out.1⟩
 refine wp_region_noPanic ?_
 refine wp_region_held_drew (S:=fun cw=>Blk cw a.sb [.int .i64 a.k,.int .i64 a.root,.slice a.rp a.L.length a.rc,.map (some a.lb)] 105/\Blk cw q [.int .i64 f,.int .i64 t] 56) (by kernel_rfl) ?_ (fun hHeld=> ?_)
 . exact BS.out
 have KU:Hid (Below W0.heap.size W0 W0.drew):=below_drew (Below.refl _ _)
 clear BS
 generalize W0.drew=U at hHeld KU |-
 refine tk 0 20 ?_ rfl (Or.inl ⟨by rfl,?_⟩) ?_
 rotate_left
 . intro w hSw;(try dsimp only at hSw);go_simp;(try with_reducible rfl)
 try simp only [Act.put,List.setIfInBounds_toArray,List.set_cons_zero,List.set_cons_succ]
 refine tk 1 21 ?_ rfl (Or.inl ⟨by rfl,?_⟩) ?_
 rotate_left
 . intro w hSw;(try dsimp only at hSw);go_simp;(try with_reducible rfl)
 try simp only [Act.put,List.setIfInBounds_toArray,List.set_cons_zero,List.set_cons_succ]
 refine tk 2 22 ?_ rfl (Or.inl ⟨by rfl,?_⟩) ?_
 rotate_left
 . intro w hSw;(try dsimp only at hSw);go_simp;(try with_reducible rfl)
 try simp only [Act.put,List.setIfInBounds_toArray,List.set_cons_zero,List.set_cons_succ]
 refine tk 3 23 (.slice a.rp a.L.length a.rc) rfl (Or.inl ⟨by rfl,?_⟩) ?_
 . intro w hSw;(try dsimp only at hSw);have r:=Blk.cell hSw.1 2;(try go_simp);(try simp [*])
 try simp only [Act.put,List.setIfInBounds_toArray,List.set_cons_zero,List.set_cons_succ]
 refine tk 4 24 (.agg #[.int .i64 f,.int .i64 t]) rfl (Or.inl ⟨by rfl,?_⟩) ?_
 . intro w hSw;(try dsimp only at hSw);have r0:=Blk.cell hSw.2 0;have r1:=Blk.cell hSw.2 1;(try go_simp);(try simp [*])
 try simp only [Act.put,List.setIfInBounds_toArray,List.set_cons_zero,List.set_cons_succ]
 refine wpAnyH_ready (rs:=[5]) (by kernel_rfl) (by simp) ?_
 refine AllReadyH.cons (o:=⟨some 25,_,_,_,_,none⟩) rfl (fun K hK=> ?_) AllReadyH.nil
 go_simp
 go_wp2_with (go_at_call 48;refine Calls.mono (CC.out _ KU.out) ?_;rintro e u1 ⟨p',c',rfl,hb1,hp1⟩)
 have KU1:Hid (Below W0.heap.size W0 u1):=below_then KU.out hb1
 have hp1x:Hid (∀ x,p'=some x-> ∃ g,x=⟨g,0,none⟩):=hp1
 refine hK.out _ _ ⟨hHeld.1.below hb1,hHeld.2.below hb1⟩ (fun hHeld2=> ?_)
 clear hK K hHeld hb1 hp1 KU
 have hHeld:=hHeld2
 clear hHeld2
 try simp only [Act.put,List.setIfInBounds_toArray,List.set_cons_zero,List.set_cons_succ]
 refine tk 6 19 ?_ rfl (Or.inl ⟨by rfl,?_⟩) ?_
 rotate_left
 . intro w hSw;(try dsimp only at hSw);go_simp;(try with_reducible rfl)
 try simp only [Act.put,List.setIfInBounds_toArray,List.set_cons_zero,List.set_cons_succ]
 refine tk 7 26 ?_ rfl (Or.inl ⟨by rfl,?_⟩) ?_
 rotate_left
 . intro w hSw;(try dsimp only at hSw);go_simp;(try with_reducible rfl)
 try simp only [Act.put,List.setIfInBounds_toArray,List.set_cons_zero,List.set_cons_succ]
 refine tk 8 27 ?_ rfl (Or.inl ⟨by rfl,?_⟩) ?_
 rotate_left
 . intro w hSw;(try dsimp only at hSw);go_simp;(try with_reducible rfl)
 try simp only [Act.put,List.setIfInBounds_toArray,List.set_cons_zero,List.set_cons_succ]
 refine tk 9 8 ?_ rfl (Or.inl ⟨by rfl,?_⟩) ?_
 rotate_left
 . intro w hSw;(try dsimp only at hSw);go_simp;(try with_reducible rfl)
 try simp only [Act.put,List.setIfInBounds_toArray,List.set_cons_zero,List.set_cons_succ]
 refine tk 10 9 ?_ rfl (Or.inl ⟨by rfl,?_⟩) ?_
 rotate_left
 . intro w hSw;(try dsimp only at hSw);go_simp;(try with_reducible rfl)
 try simp only [Act.put,List.setIfInBounds_toArray,List.set_cons_zero,List.set_cons_succ]
 clear hHeld
 refine wpAnyH_done (by kernel_rfl) ?_ _
 refine NoPanic.normal ?_
 have B1:Hid (Blk u1 q [.int .i64 f,.int .i64 t] 56/\Below W.heap.size W u1):=⟨G1.out.1.below KU1.out,below_then G1.out.2 KU1.out⟩
 clear KU1 G1 CC
 have x0:u1.cell? ⟨q,0,none⟩=some (.int .i64 f):=B1.out.1.cell 0
 have x1:u1.cell? ⟨q,1,none⟩=some (.int .i64 t):=B1.out.1.cell 1
 go_wp2_with fail
 refine Calls.mono (LC.out _ B1.out.2) ?_
 rintro e w2 ⟨vl,rfl,ho2,hb2⟩
 obtain ⟨g,og,cg,rfl,_,lg0,lg,cgp⟩:=oi_one ho2
 have B2:Hid (Blk w2 q [.int .i64 f,.int .i64 t] 56/\Below W.heap.size W w2/\W.heap.size<=g/\g<w2.heap.size/\w2.cell? ⟨g,og,none⟩=some (.int .i64 p)):=⟨B1.out.1.below hb2,below_then B1.out.2 hb2,by have:=B1.out.2.size;omega,lg,cgp⟩
 clear ho2 hb2 lg0 lg cgp x0 x1 B1 LC
 have x0:w2.cell? ⟨q,0,none⟩=some (.int .i64 f):=B2.out.1.cell 0
 have x1:w2.cell? ⟨q,1,none⟩=some (.int .i64 t):=B2.out.1.cell 1
 go_wp2_with fail
 refine Calls.mono (BC.out _ B2.out.2.1) ?_
 rintro e w3 ⟨rfl,hb3⟩
 have B3:Hid (Below W.heap.size W w3/\W.heap.size<=g/\g<w3.heap.size/\w3.cell? ⟨g,og,none⟩=some (.int .i64 p)):=⟨below_then B2.out.2.1 hb3,B2.out.2.2.1,Nat.lt_of_lt_of_le B2.out.2.2.2.1 hb3.size,(hb3.cell (p:=⟨g,og,none⟩) B2.out.2.2.2.1).trans B2.out.2.2.2.2⟩
 clear hb3 B2 BC x0 x1
 go_wp2_with fail
 refine Calls.mono (NC.out _ g og cg B3.out.1 B3.out.2.2.1 B3.out.2.2.2) ?_
 rintro e w4 ⟨rfl,hu⟩
 have hu2:=hu.symm
 subst hu2
 clear hu NC
 have M3:Hid (Mc (fun j=>Y j\/(W.heap.size<=j/\j<w3.heap.size)) O n w3 M m s T S [a]):=HM.out.grow B3.out.1
 go_wp2_with fail
 refine Calls.mono (RC.out _ _ g og cg M3.out (Or.inr ⟨B3.out.2.1,B3.out.2.2.1⟩) B3.out.2.2.2) ?_
 rintro e w5 ⟨rfl,s5,tab5,hM5,hN5,hq5,hK5⟩
 have HP:Hid (∀ x,p'=some x-> ∃ g,x=⟨g,0,none⟩):=hp1x.out
 have sb5:=(hM5.sp _ (List.mem_cons_self ..)).blk
 have c2:w5.cell? ⟨a.sb,2,none⟩=some (.slice a.rp a.L.length a.rc):=sb5.cell 2
 have z2:w5.frozen? ⟨a.sb,2,none⟩=false:=sb5.free 2
 have HE:Hid (Unmapped Y n W (w5.setCell ⟨a.sb,2,none⟩ (.slice p' 0 c')) M m s T S a p ro u fr):=by
  obtain ⟨O',q1,q2⟩:=hM5.list (Below.refl _ _) (p':=p') (c':=c') (L':=[]) (fun i hi=>absurd hi (Nat.not_lt_zero _)) (Nat.zero_le _) (Nat.zero_le _)
  exact ⟨O',s5,tab5,p',c',q1.less (fun j hj=>Or.inl hj) HM.out.y0,HP.out,hN5,Kept.trans (kept_of_below B3.out.1 (fun j hj=>HM.out.pu.lt j (Or.inl hj))) (Kept.trans (hK5.sub (fun j hj=>Or.inl hj)) (q2.sub (fun j hj=>Or.inl hj)))⟩
 clear hM5 hN5 hq5 hK5 sb5 RC M3 B3
 go_wp2_with fail
 go_returns
 exact ⟨rfl,HE.out⟩
end Go.Proofs.YthmobfelhpbllaaGreatDoor.Sp
