import Derived.Test.YtlaiadheelgbdaaGreatKZc
import Derived.Test.YtlaiadheelgbdaaGreatFYc
import Derived.Test.YtlaiadheelgbdaaGreatGBc
import Derived.Test.YtlaiadheelgbdaaGreatMHc
namespace Go.Proofs.YtlaiadheelgbdaaGreat.Fl
open Go.ChangeShapes Go.WideShapes Go.ChangeAt Go.RowKit Go.Maps
set_option linter.unusedSimpArgs false
set_option linter.unusedVariables false
set_option maxRecDepth 8000
structure Fb where
 mb:Nat
 tq:Nat
 tb:Nat
 pm:Nat
 pb:Nat
 lb:Nat
 wb:Nat
structure Fp where
 k:Int
 rp:Option Addr
 rc:Nat
 L:List Re.Rg
 F:Int->Option Nat
 B:Nat->Nat->Int
 G:Wy
structure Fm (O:Nat->Nat) (n:Nat) (W:World) (M:Fb) (Q:Ca.Qu) (T:Nat->Qo.Nd) (root:Int) (P:Fp):Prop where
 mod:Md W M.mb M.tq M.tb M.pm
 que:Ca.IsQ W M.tq Q
 tre:Qo.IsTree W M.tb T
 goo:Qo.Good T root
 prm:MapF W M.pm n (fun i=>if i=0 then some M.pb else none)
 pro:Blk W M.pb [.int .i64 0,.int .i64 P.k,.int .u64 0,.int .u64 0,.int .u64 0,.int .u64 0,.int .i64 0,.int .u64 0,.bool false,.int .u64 0,.int .i64 0,.int .u64 0,.int .u64 0,.int .u64 0,.int .u64 0,.slice P.rp P.L.length P.rc,.map (some M.lb),.map (some M.wb)] 77
 lis:Re.IsL W 0 P.rp P.L
 cap:P.L.length<=P.rc
 few:P.L.length<=64
 led:MapL W M.lb n P.F
 way:MapW W M.wb n P.G
 wbd: ∀ a b,0<=(P.G a b).getD 0/\(P.G a b).getD 0<=n
 con: ∀ p c,P.F p=some c->Page W c (P.B c)/\(∀ i,0<=P.B c i/\P.B c i<256)/\O c=9
 o1:O M.mb=1
 o2:O M.tq=2
 o3:O M.tb=3
 o4:O M.pm=4
 o5:O M.pb=5
 o7:O M.lb=7
 o8:O M.wb=8
 o6: ∀ g,P.rp=some ⟨g,0,none⟩->0<P.L.length->O g=6
 lt: ∀ j,O j≠0->j<W.heap.size
theorem list_block {w w':World} {base:Nat} {p:Option Addr} {L:List Re.Rg} (h:Re.IsL w base p L) (hs:w.heap.size<=w'.heap.size) (e: ∀ g,p=some ⟨g,0,none⟩->g<w.heap.size->0<L.length->w'.heap[g]? =w.heap[g]?):Re.IsL w' base p L:=fun i hi=>by
 obtain ⟨g,rfl,l1,l2,c⟩:=h i hi
 exact ⟨g,rfl,l1,Nat.lt_of_lt_of_le l2 hs,fun j x hx=>(World.cell?_of_block (w:=w) (a:=⟨g,i*6+j,none⟩) (e g rfl l2 (by omega))).trans (c j x hx)⟩
theorem page_block {w w':World} {c:Nat} {B:Nat->Int} (h:Page w c B) (e:w'.heap[c]? =w.heap[c]?):Page w' c B:=fun i hi=>by
 rw [World.cell?_of_block (a:=⟨c,i,none⟩) e,World.frozen?_of_block (a:=⟨c,i,none⟩) e];exact h i hi
theorem Fm.keep {O:Nat->Nat} {n:Nat} {W:World} {M:Fb} {Q:Ca.Qu} {T:Nat->Qo.Nd} {root:Int} {P:Fp} {W':World} (h:Fm O n W M Q T root P) (hs:W.heap.size<=W'.heap.size) (hk: ∀ j,O j≠0->W'.heap[j]? =W.heap[j]?):Fm O n W' M Q T root P :=
 ⟨h.mod.block hs (hk _ (by rw [h.o1];omega)),h.que.kept fun _=>hk _ (by rw [h.o2];omega),tree_block h.tre hs (hk _ (by rw [h.o3];omega)),h.goo,h.prm.block (hk _ (by rw [h.o4];omega)),(hk _ (by rw [h.o5];omega)).trans h.pro,list_block h.lis hs fun g eg _ hl=>hk g (by rw [h.o6 g eg hl];omega),h.cap,h.few,h.led.block (hk _ (by rw [h.o7];omega)),h.way.block (hk _ (by rw [h.o8];omega)),h.wbd,fun p c e=>⟨page_block (h.con p c e).1 (hk c (by rw [(h.con p c e).2.2];omega)),(h.con p c e).2⟩,h.o1,h.o2,h.o3,h.o4,h.o5,h.o7,h.o8,h.o6,fun j hj=>Nat.lt_of_lt_of_le (h.lt j hj) hs⟩
theorem Fm.below {O:Nat->Nat} {n:Nat} {W:World} {M:Fb} {Q:Ca.Qu} {T:Nat->Qo.Nd} {root:Int} {P:Fp} {W':World} (h:Fm O n W M Q T root P) (hb:Below W.heap.size W W'):Fm O n W' M Q T root P:=h.keep hb.size fun j hj=>hb.block j (h.lt j hj)
abbrev Ko (O:Nat->Nat) (W W':World):Prop:=Kept (fun j=>O j=0/\j<W.heap.size) W W'
theorem Ko.of_below {O:Nat->Nat} {W W':World} (h:Below W.heap.size W W'):Ko O W W':=kept_of_below h (fun j hj=>hj.2)
theorem Fm.list {O:Nat->Nat} {n:Nat} {W:World} {M:Fb} {Q:Ca.Qu} {T:Nat->Qo.Nd} {root:Int} {P:Fp} {W1:World} (h:Fm O n W M Q T root P) (hb:Below W.heap.size W W1) {p':Option Addr} {c':Nat} {L':List Re.Rg} (hl:Re.IsL W1 W.heap.size p' L') (hc:L'.length<=c') (h64:L'.length<=64) :
 ∃ O',Fm O' n (W1.setCell ⟨M.pb,15,none⟩ (.slice p' L'.length c')) M Q T root { P with rp:=p',rc:=c',L:=L' }/\(∀ j,j<W.heap.size->O' j=O j)/\Ko O W (W1.setCell ⟨M.pb,15,none⟩ (.slice p' L'.length c')):=by
 have q:=h.below hb
 have hg:=grown_setCell1 W1 M.pb 15 (.slice p' L'.length c')
 have bs:=q.pro.set 15 (.slice p' L'.length c')
 generalize W1.setCell ⟨M.pb,15,none⟩ (.slice p' L'.length c')=V at hg bs |-
 obtain ⟨O',eO,nO,oO⟩: ∃ O':Nat->Nat,(∀ j,j<W.heap.size->O' j=O j)/\(∀ j,W.heap.size<=j->O' j≠0->j<W1.heap.size)/\(∀ g,p'=some ⟨g,0,none⟩->0<L'.length->O' g=6):=by
  by_cases c:0<L'.length
  . obtain ⟨g,e1,l1,l2,_⟩:=hl 0 c
    refine ⟨fun j=>if j=g then 6 else O j,fun j hj=>if_neg (by omega),fun j hj hn=> ?_,fun g' e2 _=> ?_⟩
    . by_cases e:j=g
      . omega
      . have hn:(if j=g then 6 else O j)≠0:=hn
        rw [if_neg e] at hn;have:=h.lt j hn;omega
    . rw [e1] at e2;cases e2;exact if_pos rfl
  . exact ⟨O,fun _ _=>rfl,fun j hj hn=>by have:=h.lt j hn;omega,fun _ _ c'=>absurd c' c⟩
 have lto: ∀ {j c:Nat},O j=c->c≠0->j<W.heap.size:=fun {j c} e c0=>h.lt j (by omega)
 have oq: ∀ {j c:Nat},O j=c->c≠0->O' j=c:=fun {j c} e c0=>(eO j (lto e c0)).trans e
 have lm: ∀ b,O b≠0->O b≠5->V.heap[b]? =W1.heap[b]? :=fun b hO hs=>hg.block b (Nat.lt_of_lt_of_le (h.lt b hO) hb.size) (fun e=>hs (by rw [Option.some.inj e];exact h.o5))
 have hs:W1.heap.size<=V.heap.size:=hg.size
 refine ⟨O',⟨q.mod.block hs (lm _ (by rw [h.o1];omega) (by rw [h.o1];omega)),q.que.kept fun _=>lm _ (by rw [h.o2];omega) (by rw [h.o2];omega),tree_block q.tre hs (lm _ (by rw [h.o3];omega) (by rw [h.o3];omega)),h.goo,q.prm.block (lm _ (by rw [h.o4];omega) (by rw [h.o4];omega)),bs,list_block (hl.weak (Nat.zero_le _)) hs fun g eg lg hl'=> ?_,hc,h64,q.led.block (lm _ (by rw [h.o7];omega) (by rw [h.o7];omega)),q.way.block (lm _ (by rw [h.o8];omega) (by rw [h.o8];omega)),h.wbd,fun p c e=> ?_,oq h.o1 (by omega),oq h.o2 (by omega),oq h.o3 (by omega),oq h.o4 (by omega),oq h.o5 (by omega),oq h.o7 (by omega),oq h.o8 (by omega),oO,fun j hj=> ?_⟩,eO,(Ko.of_below hb).trans (kept_grown hg fun j hj=>⟨fun e=>by have:=hj.1;rw [e,h.o5] at this;omega,Nat.lt_of_lt_of_le hj.2 hb.size⟩)⟩
 . obtain ⟨g',e',l1,l2,_⟩:=hl 0 hl'
   have e':p'=some ⟨g',0,none⟩:=e'
   have eg:p'=some ⟨g,0,none⟩:=eg
   rw [e'] at eg
   have gg:g=g':=by cases eg;rfl
   exact hg.block g lg (fun e=>by have:=Option.some.inj e;have:=h.pro.lt;omega)
 . obtain ⟨c1,c2,c3⟩:=q.con p c e
   exact ⟨page_block c1 (lm c (by omega) (by omega)),c2,oq c3 (by omega)⟩
 . by_cases c:j<W.heap.size
   . exact Nat.lt_of_lt_of_le c (Nat.le_trans hb.size hs)
   . exact Nat.lt_of_lt_of_le (nO j (by omega) hj) hs
theorem add_new (p:Option Addr) (c:Nat) (L:List Re.Rg) (hL:L.length<=100) (hc:L.length<=c) (r:Re.Rg) (E:Int) (M:List Re.Rg) (hE:Re.errA (Re.addN L r) (Re.addL L r)=E) (hM:Re.outL (Re.addN L r) (Re.addL L r)=M) (w:World) (h:Re.IsL w 0 p L) :
 Calls Tryz.prog 73 #[.slice p L.length c,r.val] w fun e w'=> ∃ p' c',e=.returned (.tuple #[.slice p' M.length c',.int .i64 E])/\M.length<=c'/\Re.IsL w' w.heap.size p' M/\Below w.heap.size w w' :=
 (Re.add_any 0 p c L hL hc r w h).mono fun e w' ⟨v,er,h1,h2,h3⟩=>by
  obtain ⟨k1,p',c',k2,k3,k4⟩:=Re.ans_readb h2
  rw [hE] at k1;rw [hM] at k2 k3 k4
  exact ⟨p',c',by rw [h1,k1,k2],k3,k4,h3⟩
set_option maxHeartbeats 2000000 in
theorem add_ok {O:Nat->Nat} {n:Nat} {W:World} {M:Fb} {Q:Ca.Qu} {T:Nat->Qo.Nd} {root:Int} {P:Fp} (h:Fm O n W M Q T root P) (op:Int) (k1 k2:Int) (k3 k4 k5:Bool) (ad sz x k6 k7 k8 k9:Int) (L':List Re.Rg) (hE:Re.errA (Re.addN P.L ⟨k1,k2,k3,k4,k5,0⟩) (Re.addL P.L ⟨k1,k2,k3,k4,k5,0⟩)=0) (hM:Re.outL (Re.addN P.L ⟨k1,k2,k3,k4,k5,0⟩) (Re.addL P.L ⟨k1,k2,k3,k4,k5,0⟩)=L') (h64:L'.length<=64) :
 Calls Tryz.prog 54 #[pp M.pb,.agg #[.int .i64 op,.int .i64 k1,.int .i64 k2,.bool k3,.bool k4,.bool k5,.int .u64 ad,.int .i64 sz,.int .u64 x,.int .i64 k6,.int .i64 k7,.int .i64 k8,.int .i64 k9]] W fun e w'=>e=.returned (.int .i64 0)/\ ∃ O' p' c',Fm O' n w' M Q T root { P with rp:=p',rc:=c',L:=L' }/\(∀ j,j<W.heap.size->O' j=O j)/\Ko O W w':=by
 have AC:Hid (∀ w:World,Below W.heap.size W w->Calls Tryz.prog 73 #[.slice P.rp P.L.length P.rc,.agg #[.int .i64 k1,.int .i64 k2,.bool k3,.bool k4,.bool k5,.int .i64 0]] w fun e w'=> ∃ p' c',e=.returned (.tuple #[.slice p' L'.length c',.int .i64 0])/\L'.length<=c'/\Re.IsL w' w.heap.size p' L'/\Below w.heap.size w w'):=fun w hb=>add_new P.rp P.rc P.L (by have:=h.few;omega) h.cap ⟨k1,k2,k3,k4,k5,0⟩ 0 L' hE hM w (h.lis.below hb)
 have HM:Hid (Fm O n W M Q T root P):=h
 have G0:Hid (Below W.heap.size W (W.alloc (.cells #[.int .i64 op,.int .i64 k1,.int .i64 k2,.bool k3,.bool k4,.bool k5,.int .u64 ad,.int .i64 sz,.int .u64 x,.int .i64 k6,.int .i64 k7,.int .i64 k8,.int .i64 k9] 59))/\Blk (W.alloc (.cells #[.int .i64 op,.int .i64 k1,.int .i64 k2,.bool k3,.bool k4,.bool k5,.int .u64 ad,.int .i64 sz,.int .u64 x,.int .i64 k6,.int .i64 k7,.int .i64 k8,.int .i64 k9] 59)) W.heap.size [.int .i64 op,.int .i64 k1,.int .i64 k2,.bool k3,.bool k4,.bool k5,.int .u64 ad,.int .i64 sz,.int .u64 x,.int .i64 k6,.int .i64 k7,.int .i64 k8,.int .i64 k9] 59):=⟨Go.Joins.below_alloc1 _ _,Blk.made _ _ _⟩
 clear h hE hM
 go_enter Tryz.func54,Tryz.ntmps54
 go_upto_region 1 with fail
 generalize (W.alloc (.cells #[.int .i64 op,.int .i64 k1,.int .i64 k2,.bool k3,.bool k4,.bool k5,.int .u64 ad,.int .i64 sz,.int .u64 x,.int .i64 k6,.int .i64 k7,.int .i64 k8,.int .i64 k9] 59))=W0 at G0 |-
 obtain ⟨q,hq⟩: ∃ q,q=W.heap.size:=⟨_,rfl⟩
 have G1:Hid (Below W.heap.size W W0/\Blk W0 q [.int .i64 op,.int .i64 k1,.int .i64 k2,.bool k3,.bool k4,.bool k5,.int .u64 ad,.int .i64 sz,.int .u64 x,.int .i64 k6,.int .i64 k7,.int .i64 k8,.int .i64 k9] 59):=by rw [hq];exact G0.out
 rw [<- hq]
 clear hq G0
 have BS:Hid (Blk W0 M.pb [.int .i64 0,.int .i64 P.k,.int .u64 0,.int .u64 0,.int .u64 0,.int .u64 0,.int .i64 0,.int .u64 0,.bool false,.int .u64 0,.int .i64 0,.int .u64 0,.int .u64 0,.int .u64 0,.int .u64 0,.slice P.rp P.L.length P.rc,.map (some M.lb),.map (some M.wb)] 77/\Blk W0 q [.int .i64 op,.int .i64 k1,.int .i64 k2,.bool k3,.bool k4,.bool k5,.int .u64 ad,.int .i64 sz,.int .u64 x,.int .i64 k6,.int .i64 k7,.int .i64 k8,.int .i64 k9] 59):=⟨HM.out.pro.below G1.out.1,G1.out.2⟩
 refine wp_region_noPanic ?_
 refine wp_region_held_drew (S:=fun cw=>Blk cw M.pb [.int .i64 0,.int .i64 P.k,.int .u64 0,.int .u64 0,.int .u64 0,.int .u64 0,.int .i64 0,.int .u64 0,.bool false,.int .u64 0,.int .i64 0,.int .u64 0,.int .u64 0,.int .u64 0,.int .u64 0,.slice P.rp P.L.length P.rc,.map (some M.lb),.map (some M.wb)] 77/\Blk cw q [.int .i64 op,.int .i64 k1,.int .i64 k2,.bool k3,.bool k4,.bool k5,.int .u64 ad,.int .i64 sz,.int .u64 x,.int .i64 k6,.int .i64 k7,.int .i64 k8,.int .i64 k9] 59) (by kernel_rfl) ?_ (fun hHeld=> ?_)
 . exact BS.out
 have KU:Hid (Below W.heap.size W W0.drew):=below_drew G1.out.1
 clear BS
 generalize W0.drew=U at hHeld KU |-
 refine tk 0 8 ?_ rfl (Or.inl ⟨by rfl,?_⟩) ?_
 rotate_left
 . intro w hSw;(try dsimp only at hSw);go_simp;(try with_reducible rfl)
 try simp only [Act.put,List.setIfInBounds_toArray,List.set_cons_zero,List.set_cons_succ]
 refine tk 1 9 ?_ rfl (Or.inl ⟨by rfl,?_⟩) ?_
 rotate_left
 . intro w hSw;(try dsimp only at hSw);go_simp;(try with_reducible rfl)
 try simp only [Act.put,List.setIfInBounds_toArray,List.set_cons_zero,List.set_cons_succ]
 refine tk 2 10 ?_ rfl (Or.inl ⟨by rfl,?_⟩) ?_
 rotate_left
 . intro w hSw;(try dsimp only at hSw);go_simp;(try with_reducible rfl)
 try simp only [Act.put,List.setIfInBounds_toArray,List.set_cons_zero,List.set_cons_succ]
 refine tk 3 11 (.slice P.rp P.L.length P.rc) rfl (Or.inl ⟨by rfl,?_⟩) ?_
 . intro w hSw;(try dsimp only at hSw);have r:=Blk.cell hSw.1 15;(try go_simp);(try simp [*])
 try simp only [Act.put,List.setIfInBounds_toArray,List.set_cons_zero,List.set_cons_succ]
 refine tk 4 12 ?_ rfl (Or.inl ⟨by rfl,?_⟩) ?_
 rotate_left
 . intro w hSw;(try dsimp only at hSw);go_simp;(try with_reducible rfl)
 try simp only [Act.put,List.setIfInBounds_toArray,List.set_cons_zero,List.set_cons_succ]
 refine tk 5 13 (.agg #[.int .i64 k1,.int .i64 k2]) rfl (Or.inl ⟨by rfl,?_⟩) ?_
 . intro w hSw;(try dsimp only at hSw);have r0:=Blk.cell hSw.2 1;have r1:=Blk.cell hSw.2 2;(try go_simp);(try simp [*])
 try simp only [Act.put,List.setIfInBounds_toArray,List.set_cons_zero,List.set_cons_succ]
 refine tk 6 14 ?_ rfl (Or.inl ⟨by rfl,?_⟩) ?_
 rotate_left
 . intro w hSw;(try dsimp only at hSw);go_simp;(try with_reducible rfl)
 try simp only [Act.put,List.setIfInBounds_toArray,List.set_cons_zero,List.set_cons_succ]
 refine tk 7 15 (.agg #[.bool k3,.bool k4,.bool k5]) rfl (Or.inl ⟨by rfl,?_⟩) ?_
 . intro w hSw;(try dsimp only at hSw);have r0:=Blk.cell hSw.2 3;have r1:=Blk.cell hSw.2 4;have r2:=Blk.cell hSw.2 5;(try go_simp);(try simp [*])
 try simp only [Act.put,List.setIfInBounds_toArray,List.set_cons_zero,List.set_cons_succ]
 refine tk 8 16 ?_ rfl (Or.inl ⟨by rfl,?_⟩) ?_
 rotate_left
 . intro w hSw;(try dsimp only at hSw);go_simp;(try with_reducible rfl)
 try simp only [Act.put,List.setIfInBounds_toArray,List.set_cons_zero,List.set_cons_succ]
 refine wpAnyH_ready (rs:=[9]) (by kernel_rfl) (by simp) ?_
 refine AllReadyH.cons (o:=⟨some 17,_,_,_,_,none⟩) rfl (fun K hK=> ?_) AllReadyH.nil
 go_simp
 go_wp2_with (go_at_call 73;refine Calls.mono (AC.out _ KU.out) ?_;rintro e u1 ⟨p',c',rfl,hc,hi,hb1⟩)
 have KU1:Hid (Below W.heap.size W u1/\L'.length<=c'/\Re.IsL u1 W.heap.size p' L'):=⟨below_then KU.out hb1,hc,hi.weak KU.out.size⟩
 refine hK.out _ _ ⟨hHeld.1.below hb1,hHeld.2.below hb1⟩ (fun hHeld2=> ?_)
 clear hK K hHeld hc hi hb1 KU
 have hHeld:=hHeld2
 clear hHeld2
 try simp only [Act.put,List.setIfInBounds_toArray,List.set_cons_zero,List.set_cons_succ]
 refine tk 10 7 ?_ rfl (Or.inl ⟨by rfl,?_⟩) ?_
 rotate_left
 . intro w hSw;(try dsimp only at hSw);go_simp;(try with_reducible rfl)
 try simp only [Act.put,List.setIfInBounds_toArray,List.set_cons_zero,List.set_cons_succ]
 refine tk 11 18 ?_ rfl (Or.inl ⟨by rfl,?_⟩) ?_
 rotate_left
 . intro w hSw;(try dsimp only at hSw);go_simp;(try with_reducible rfl)
 try simp only [Act.put,List.setIfInBounds_toArray,List.set_cons_zero,List.set_cons_succ]
 refine tk 12 19 ?_ rfl (Or.inl ⟨by rfl,?_⟩) ?_
 rotate_left
 . intro w hSw;(try dsimp only at hSw);go_simp;(try with_reducible rfl)
 try simp only [Act.put,List.setIfInBounds_toArray,List.set_cons_zero,List.set_cons_succ]
 refine tk 13 5 ?_ rfl (Or.inl ⟨by rfl,?_⟩) ?_
 rotate_left
 . intro w hSw;(try dsimp only at hSw);go_simp;(try with_reducible rfl)
 try simp only [Act.put,List.setIfInBounds_toArray,List.set_cons_zero,List.set_cons_succ]
 refine tk 14 6 ?_ rfl (Or.inl ⟨by rfl,?_⟩) ?_
 rotate_left
 . intro w hSw;(try dsimp only at hSw);go_simp;(try with_reducible rfl)
 try simp only [Act.put,List.setIfInBounds_toArray,List.set_cons_zero,List.set_cons_succ]
 clear hHeld
 refine wpAnyH_done (by kernel_rfl) ?_ _
 refine NoPanic.normal ?_
 have SB1:=(HM.out.below KU1.out.1).pro
 have c2:u1.cell? ⟨M.pb,15,none⟩=some (.slice P.rp P.L.length P.rc):=SB1.cell 15
 have z2:u1.frozen? ⟨M.pb,15,none⟩=false:=SB1.free 15
 have HE:=HM.out.list KU1.out.1 KU1.out.2.2 KU1.out.2.1 h64
 have HE:Hid _:=HE
 clear SB1 KU1 AC h64
 go_wp2_with fail
 go_returns
 obtain ⟨O',hO⟩:=HE.out
 exact ⟨rfl,O',p',c',hO⟩
set_option maxHeartbeats 2000000 in
theorem add_no {O:Nat->Nat} {n:Nat} {W:World} {M:Fb} {Q:Ca.Qu} {T:Nat->Qo.Nd} {root:Int} {P:Fp} (h:Fm O n W M Q T root P) (op:Int) (k1 k2:Int) (k3 k4 k5:Bool) (ad sz x k6 k7 k8 k9:Int) (L':List Re.Rg) (E:Int) (E0:E≠0) (hE:Re.errA (Re.addN P.L ⟨k1,k2,k3,k4,k5,0⟩) (Re.addL P.L ⟨k1,k2,k3,k4,k5,0⟩)=E) (hM:Re.outL (Re.addN P.L ⟨k1,k2,k3,k4,k5,0⟩) (Re.addL P.L ⟨k1,k2,k3,k4,k5,0⟩)=L') :
 Calls Tryz.prog 54 #[pp M.pb,.agg #[.int .i64 op,.int .i64 k1,.int .i64 k2,.bool k3,.bool k4,.bool k5,.int .u64 ad,.int .i64 sz,.int .u64 x,.int .i64 k6,.int .i64 k7,.int .i64 k8,.int .i64 k9]] W fun e w'=>e=.returned (.int .i64 E)/\Below W.heap.size W w':=by
 have AC:Hid (∀ w:World,Below W.heap.size W w->Calls Tryz.prog 73 #[.slice P.rp P.L.length P.rc,.agg #[.int .i64 k1,.int .i64 k2,.bool k3,.bool k4,.bool k5,.int .i64 0]] w fun e w'=> ∃ p' c',e=.returned (.tuple #[.slice p' L'.length c',.int .i64 E])/\L'.length<=c'/\Re.IsL w' w.heap.size p' L'/\Below w.heap.size w w'):=fun w hb=>add_new P.rp P.rc P.L (by have:=h.few;omega) h.cap ⟨k1,k2,k3,k4,k5,0⟩ E L' hE hM w (h.lis.below hb)
 have HM:Hid (Fm O n W M Q T root P):=h
 have G0:Hid (Below W.heap.size W (W.alloc (.cells #[.int .i64 op,.int .i64 k1,.int .i64 k2,.bool k3,.bool k4,.bool k5,.int .u64 ad,.int .i64 sz,.int .u64 x,.int .i64 k6,.int .i64 k7,.int .i64 k8,.int .i64 k9] 59))/\Blk (W.alloc (.cells #[.int .i64 op,.int .i64 k1,.int .i64 k2,.bool k3,.bool k4,.bool k5,.int .u64 ad,.int .i64 sz,.int .u64 x,.int .i64 k6,.int .i64 k7,.int .i64 k8,.int .i64 k9] 59)) W.heap.size [.int .i64 op,.int .i64 k1,.int .i64 k2,.bool k3,.bool k4,.bool k5,.int .u64 ad,.int .i64 sz,.int .u64 x,.int .i64 k6,.int .i64 k7,.int .i64 k8,.int .i64 k9] 59):=⟨Go.Joins.below_alloc1 _ _,Blk.made _ _ _⟩
 clear h hE hM
 go_enter Tryz.func54,Tryz.ntmps54
 go_upto_region 1 with fail
 generalize (W.alloc (.cells #[.int .i64 op,.int .i64 k1,.int .i64 k2,.bool k3,.bool k4,.bool k5,.int .u64 ad,.int .i64 sz,.int .u64 x,.int .i64 k6,.int .i64 k7,.int .i64 k8,.int .i64 k9] 59))=W0 at G0 |-
 obtain ⟨q,hq⟩: ∃ q,q=W.heap.size:=⟨_,rfl⟩
 have G1:Hid (Below W.heap.size W W0/\Blk W0 q [.int .i64 op,.int .i64 k1,.int .i64 k2,.bool k3,.bool k4,.bool k5,.int .u64 ad,.int .i64 sz,.int .u64 x,.int .i64 k6,.int .i64 k7,.int .i64 k8,.int .i64 k9] 59):=by rw [hq];exact G0.out
 rw [<- hq]
 clear hq G0
 have BS:Hid (Blk W0 M.pb [.int .i64 0,.int .i64 P.k,.int .u64 0,.int .u64 0,.int .u64 0,.int .u64 0,.int .i64 0,.int .u64 0,.bool false,.int .u64 0,.int .i64 0,.int .u64 0,.int .u64 0,.int .u64 0,.int .u64 0,.slice P.rp P.L.length P.rc,.map (some M.lb),.map (some M.wb)] 77/\Blk W0 q [.int .i64 op,.int .i64 k1,.int .i64 k2,.bool k3,.bool k4,.bool k5,.int .u64 ad,.int .i64 sz,.int .u64 x,.int .i64 k6,.int .i64 k7,.int .i64 k8,.int .i64 k9] 59):=⟨HM.out.pro.below G1.out.1,G1.out.2⟩
 refine wp_region_noPanic ?_
 refine wp_region_held_drew (S:=fun cw=>Blk cw M.pb [.int .i64 0,.int .i64 P.k,.int .u64 0,.int .u64 0,.int .u64 0,.int .u64 0,.int .i64 0,.int .u64 0,.bool false,.int .u64 0,.int .i64 0,.int .u64 0,.int .u64 0,.int .u64 0,.int .u64 0,.slice P.rp P.L.length P.rc,.map (some M.lb),.map (some M.wb)] 77/\Blk cw q [.int .i64 op,.int .i64 k1,.int .i64 k2,.bool k3,.bool k4,.bool k5,.int .u64 ad,.int .i64 sz,.int .u64 x,.int .i64 k6,.int .i64 k7,.int .i64 k8,.int .i64 k9] 59) (by kernel_rfl) ?_ (fun hHeld=> ?_)
 . exact BS.out
 have KU:Hid (Below W.heap.size W W0.drew):=below_drew G1.out.1
 clear BS
 generalize W0.drew=U at hHeld KU |-
 refine tk 0 8 ?_ rfl (Or.inl ⟨by rfl,?_⟩) ?_
 rotate_left
 . intro w hSw;(try dsimp only at hSw);go_simp;(try with_reducible rfl)
 try simp only [Act.put,List.setIfInBounds_toArray,List.set_cons_zero,List.set_cons_succ]
 refine tk 1 9 ?_ rfl (Or.inl ⟨by rfl,?_⟩) ?_
 rotate_left
 . intro w hSw;(try dsimp only at hSw);go_simp;(try with_reducible rfl)
 try simp only [Act.put,List.setIfInBounds_toArray,List.set_cons_zero,List.set_cons_succ]
 refine tk 2 10 ?_ rfl (Or.inl ⟨by rfl,?_⟩) ?_
 rotate_left
 . intro w hSw;(try dsimp only at hSw);go_simp;(try with_reducible rfl)
 try simp only [Act.put,List.setIfInBounds_toArray,List.set_cons_zero,List.set_cons_succ]
 refine tk 3 11 (.slice P.rp P.L.length P.rc) rfl (Or.inl ⟨by rfl,?_⟩) ?_
 . intro w hSw;(try dsimp only at hSw);have r:=Blk.cell hSw.1 15;(try go_simp);(try simp [*])
 try simp only [Act.put,List.setIfInBounds_toArray,List.set_cons_zero,List.set_cons_succ]
 refine tk 4 12 ?_ rfl (Or.inl ⟨by rfl,?_⟩) ?_
 rotate_left
 . intro w hSw;(try dsimp only at hSw);go_simp;(try with_reducible rfl)
 try simp only [Act.put,List.setIfInBounds_toArray,List.set_cons_zero,List.set_cons_succ]
 refine tk 5 13 (.agg #[.int .i64 k1,.int .i64 k2]) rfl (Or.inl ⟨by rfl,?_⟩) ?_
 . intro w hSw;(try dsimp only at hSw);have r0:=Blk.cell hSw.2 1;have r1:=Blk.cell hSw.2 2;(try go_simp);(try simp [*])
 try simp only [Act.put,List.setIfInBounds_toArray,List.set_cons_zero,List.set_cons_succ]
 refine tk 6 14 ?_ rfl (Or.inl ⟨by rfl,?_⟩) ?_
 rotate_left
 . intro w hSw;(try dsimp only at hSw);go_simp;(try with_reducible rfl)
 try simp only [Act.put,List.setIfInBounds_toArray,List.set_cons_zero,List.set_cons_succ]
 refine tk 7 15 (.agg #[.bool k3,.bool k4,.bool k5]) rfl (Or.inl ⟨by rfl,?_⟩) ?_
 . intro w hSw;(try dsimp only at hSw);have r0:=Blk.cell hSw.2 3;have r1:=Blk.cell hSw.2 4;have r2:=Blk.cell hSw.2 5;(try go_simp);(try simp [*])
 try simp only [Act.put,List.setIfInBounds_toArray,List.set_cons_zero,List.set_cons_succ]
 refine tk 8 16 ?_ rfl (Or.inl ⟨by rfl,?_⟩) ?_
 rotate_left
 . intro w hSw;(try dsimp only at hSw);go_simp;(try with_reducible rfl)
 try simp only [Act.put,List.setIfInBounds_toArray,List.set_cons_zero,List.set_cons_succ]
 refine wpAnyH_ready (rs:=[9]) (by kernel_rfl) (by simp) ?_
 refine AllReadyH.cons (o:=⟨some 17,_,_,_,_,none⟩) rfl (fun K hK=> ?_) AllReadyH.nil
 go_simp
 go_wp2_with (go_at_call 73;refine Calls.mono (AC.out _ KU.out) ?_;rintro e u1 ⟨p',c',rfl,hc,hi,hb1⟩)
 have KU1:Hid (Below W.heap.size W u1/\L'.length<=c'/\Re.IsL u1 W.heap.size p' L'):=⟨below_then KU.out hb1,hc,hi.weak KU.out.size⟩
 refine hK.out _ _ ⟨hHeld.1.below hb1,hHeld.2.below hb1⟩ (fun hHeld2=> ?_)
 clear hK K hHeld hc hi hb1 KU
 have hHeld:=hHeld2
 clear hHeld2
 try simp only [Act.put,List.setIfInBounds_toArray,List.set_cons_zero,List.set_cons_succ]
 refine tk 10 7 ?_ rfl (Or.inl ⟨by rfl,?_⟩) ?_
 rotate_left
 . intro w hSw;(try dsimp only at hSw);go_simp;(try with_reducible rfl)
 try simp only [Act.put,List.setIfInBounds_toArray,List.set_cons_zero,List.set_cons_succ]
 refine tk 11 18 ?_ rfl (Or.inl ⟨by rfl,?_⟩) ?_
 rotate_left
 . intro w hSw;(try dsimp only at hSw);go_simp;(try with_reducible rfl)
 try simp only [Act.put,List.setIfInBounds_toArray,List.set_cons_zero,List.set_cons_succ]
 refine tk 12 19 ?_ rfl (Or.inl ⟨by rfl,?_⟩) ?_
 rotate_left
 . intro w hSw;(try dsimp only at hSw);go_simp;(try with_reducible rfl)
 try simp only [Act.put,List.setIfInBounds_toArray,List.set_cons_zero,List.set_cons_succ]
 refine tk 13 5 ?_ rfl (Or.inl ⟨by rfl,?_⟩) ?_
 rotate_left
 . intro w hSw;(try dsimp only at hSw);go_simp;(try with_reducible rfl)
 try simp only [Act.put,List.setIfInBounds_toArray,List.set_cons_zero,List.set_cons_succ]
 refine tk 14 6 ?_ rfl (Or.inl ⟨by rfl,?_⟩) ?_
 rotate_left
 . intro w hSw;(try dsimp only at hSw);go_simp;(try with_reducible rfl)
 try simp only [Act.put,List.setIfInBounds_toArray,List.set_cons_zero,List.set_cons_succ]
 clear hHeld
 refine wpAnyH_done (by kernel_rfl) ?_ _
 refine NoPanic.normal ?_
 have d1:decide (E=0)=false:=by simp [E0]
 have d2:(E==0)=false:=by simp [E0]
 have HE:Hid (Below W.heap.size W u1):=KU1.out.1
 clear KU1 AC
 go_wp2_with fail
 go_returns
 exact ⟨rfl,HE.out⟩
end Go.Proofs.YtlaiadheelgbdaaGreat.Fl
namespace Go.Proofs.YtlaiadheelgbdaaGreat.Fl
open Go.ChangeShapes Go.WideShapes Go.ChangeAt Go.RowKit Go.Maps
set_option linter.unusedSimpArgs false
set_option linter.unusedVariables false
set_option maxRecDepth 8000
def mayV (pw pu px x u f:Bool):Bool:=(!x || pw) && (!u || pu) && (!f || px)
theorem may_any (pw pu px x u f:Bool) (w:World):Calls Tryz.prog 47 #[.agg #[.bool pw,.bool pu,.bool px],.agg #[.bool x,.bool u,.bool f]] w fun e w'=>e=.returned (.bool (mayV pw pu px x u f))/\Below w.heap.size w w':=by
 cases x <;> cases u <;> cases f
 all_goals
  go_enter Tryz.func47,Tryz.ntmps47
  go_wp2
  all_goals
   go_returns
   refine ⟨?_,Go.Joins.below_alloc2 _ _ _⟩
   simp_all [mayV]
theorem zero_run (w:World):(zeroValue 126).run Tryz.prog w=.ok (.agg (Array.replicate 4096 (.int .u8 0))) w:=by kernel_rfl
theorem zero_page: ∃ zs:Array Value,(∀ w:World,(zeroValue 126).run Tryz.prog w=.ok (.agg zs) w)/\ ∀ i,i<4096->zs[i]? =some (.int .u8 0) :=
 ⟨Array.replicate 4096 (.int .u8 0),zero_run,fun i hi=>by rw [Array.getElem?_replicate,if_pos hi]⟩
theorem page_made (w:World) (zs:Array Value) (hz: ∀ i,i<4096->zs[i]? =some (.int .u8 0)):Page (w.alloc (.cells zs 126)) w.heap.size (fun _=>0):=fun i hi=>by
 rw [World.cell?_alloc_at _ _ _ _ rfl,World.frozen?_alloc_at _ _ _ _ rfl]
 exact ⟨hz i hi,rfl⟩
theorem bump_bd {G:Wy} {n:Nat} (h: ∀ a b,0<=(G a b).getD 0/\(G a b).getD 0<=n) (x y:Int): ∀ a b,0<=(bump G x y a b).getD 0/\(bump G x y a b).getD 0<=((n+1:Nat):Int):=fun a b=>by
 unfold bump Wy.set
 have h1:=h x y
 have h2:=h a b
 split
 . simp only [Option.getD_some];omega
 . omega
theorem bumpN_bd {G:Wy} {n:Nat} (h: ∀ a b,0<=(G a b).getD 0/\(G a b).getD 0<=n) (n1 n2 n3:Int): ∀ a b,0<=(bumpN n1 n2 n3 G 3 a b).getD 0/\(bumpN n1 n2 n3 G 3 a b).getD 0<=((n+6:Nat):Int):=fun a b=>by
 have q:=bump_bd (bump_bd (bump_bd h 9 n1) 18 n2) 27 n3 a b
 have e:bumpN n1 n2 n3 G 3=bump (bump (bump G 9 n1) 18 n2) 27 n3:=rfl
 rw [e];omega
theorem MapF.mono {w:World} {b n:Nat} {f:Int->Option Nat} (h:MapF w b n f) {n':Nat} (hn:n<=n'):MapF w b n' f:=by
 obtain ⟨D,hown,hD⟩:=h
 exact ⟨D,hown.mono hn,hD⟩
theorem MapL.mono {w:World} {b n:Nat} {f:Int->Option Nat} (h:MapL w b n f) {n':Nat} (hn:n<=n'):MapL w b n' f:=by
 obtain ⟨D,hown,hD⟩:=h
 exact ⟨D,hown.mono hn,hD⟩
theorem Fm.lead {O:Nat->Nat} {n:Nat} {W:World} {M:Fb} {Q:Ca.Qu} {T:Nat->Qo.Nd} {root:Int} {P:Fp} {V U:World} {p:Int} {c:Nat} (h:Fm O n W M Q T root P) (hb:Below W.heap.size W V) (hc:W.heap.size<=c) (hcl:c<V.heap.size) (hp:Page V c (fun _=>0)) (hT:Qo.IsTree U M.tb (Qo.chargeT T P.k (costN (p / 512) (p / 262144) (p / 134217728) P.G 3))) (hL:MapL U M.lb (n+1) (put P.F p (some c))) (hW:MapW U M.wb (n+6) (bumpN (p / 512) (p / 262144) (p / 134217728) P.G 3)) (hk:Kept (fun j=>j≠M.tb/\j≠M.lb/\j≠M.wb/\j<V.heap.size) V U) :
 Fm (fun j=>if j=c then 9 else O j) (n+6) U M Q (Qo.chargeT T P.k (costN (p / 512) (p / 262144) (p / 134217728) P.G 3)) root { P with F:=put P.F p (some c),B:=(fun y9=>if y9=c then (fun _=>0) else P.B y9),G:=bumpN (p / 512) (p / 262144) (p / 134217728) P.G 3 }/\Ko O W U:=by
 have q:=h.below hb
 have oo: ∀ j,j<W.heap.size->(if j=c then 9 else O j)=O j:=fun j hj=>if_neg (by omega)
 have lo: ∀ {j d:Nat},O j=d->d≠0->(if j=c then 9 else O j)=d:=fun {j d} e d0=>(oo j (h.lt j (by omega))).trans e
 have kb: ∀ j,O j≠0->O j≠3->O j≠7->O j≠8->U.heap[j]? =V.heap[j]? :=fun j h0 h3 h7 h8=>hk.block j ⟨fun e=>h3 (by rw [e];exact h.o3),fun e=>h7 (by rw [e];exact h.o7),fun e=>h8 (by rw [e];exact h.o8),Nat.lt_of_lt_of_le (h.lt j h0) hb.size⟩
 have cne: ∀ j,O j≠0->c≠j:=fun j hj e=>by have:=h.lt j hj;omega
 have kc:U.heap[c]? =V.heap[c]? :=hk.block c ⟨cne _ (by rw [h.o3];omega),cne _ (by rw [h.o7];omega),cne _ (by rw [h.o8];omega),hcl⟩
 refine ⟨⟨q.mod.block hk.size (kb _ (by rw [h.o1];omega) (by rw [h.o1];omega) (by rw [h.o1];omega) (by rw [h.o1];omega)),q.que.kept fun _=>kb _ (by rw [h.o2];omega) (by rw [h.o2];omega) (by rw [h.o2];omega) (by rw [h.o2];omega),hT,h.goo.charge _ _,(q.prm.mono (by omega)).block (kb _ (by rw [h.o4];omega) (by rw [h.o4];omega) (by rw [h.o4];omega) (by rw [h.o4];omega)),(kb _ (by rw [h.o5];omega) (by rw [h.o5];omega) (by rw [h.o5];omega) (by rw [h.o5];omega)).trans q.pro,list_block q.lis hk.size fun g eg _ hl=>kb g (by rw [h.o6 g eg hl];omega) (by rw [h.o6 g eg hl];omega) (by rw [h.o6 g eg hl];omega) (by rw [h.o6 g eg hl];omega),h.cap,h.few,hL.mono (by omega),hW,bumpN_bd h.wbd _ _ _,fun p1 c1 e=> ?_,lo h.o1 (by omega),lo h.o2 (by omega),lo h.o3 (by omega),lo h.o4 (by omega),lo h.o5 (by omega),lo h.o7 (by omega),lo h.o8 (by omega),fun g eg hl=>lo (h.o6 g eg hl) (by omega),fun j hj=> ?_⟩,?_⟩
 . have e:put P.F p (some c) p1=some c1:=e
   unfold put at e
   by_cases ep:p1=p
   . rw [if_pos ep] at e
     cases e
     refine ⟨?_,?_,if_pos rfl⟩
     . show Page U c (if c=c then (fun _=>0) else P.B c)
       rw [if_pos rfl];exact page_block hp kc
     . show ∀ i,0<=(if c=c then (fun _=>(0:Int)) else P.B c) i/\(if c=c then (fun _=>(0:Int)) else P.B c) i<256
       rw [if_pos rfl];exact fun _=>⟨by omega,by omega⟩
   . rw [if_neg ep] at e
     obtain ⟨d1,d2,d3⟩:=q.con p1 c1 e
     have nc:c1≠c:=fun e=>cne c1 (by omega) e.symm
     refine ⟨?_,?_,(if_neg nc).trans d3⟩
     . show Page U c1 (if c1=c then (fun _=>0) else P.B c1)
       rw [if_neg nc];exact page_block d1 (kb c1 (by omega) (by omega) (by omega) (by omega))
     . show ∀ i,0<=(if c1=c then (fun _=>(0:Int)) else P.B c1) i/\(if c1=c then (fun _=>(0:Int)) else P.B c1) i<256
       rw [if_neg nc];exact d2
 . by_cases e:j=c
   . rw [e];exact Nat.lt_of_lt_of_le hcl hk.size
   . have hj:(if j=c then 9 else O j)≠0:=hj
     rw [if_neg e] at hj
     exact Nat.lt_of_lt_of_le (h.lt j hj) (Nat.le_trans hb.size hk.size)
 . refine (Ko.of_below hb).trans (hk.sub fun j hj=>⟨fun e=> ?_,fun e=> ?_,fun e=> ?_,Nat.lt_of_lt_of_le hj.2 hb.size⟩)
   . have:=hj.1;rw [e,h.o3] at this;omega
   . have:=hj.1;rw [e,h.o7] at this;omega
   . have:=hj.1;rw [e,h.o8] at this;omega
theorem Fm.poke {O:Nat->Nat} {n:Nat} {W:World} {M:Fb} {Q:Ca.Qu} {T:Nat->Qo.Nd} {root:Int} {P:Fp} {V:World} {p:Int} {c:Nat} {b:Nat->Int} (h:Fm O n W M Q T root P) (hc:P.F p=some c) (hg:W.grownBy V (some c)) (hp:Page V c b) (hb: ∀ i,0<=b i/\b i<256) :
 Fm O n V M Q T root { P with B:=(fun y9=>if y9=c then b else P.B y9) }/\Ko O W V:=by
 have o9:=(h.con p c hc).2.2
 have kb: ∀ j,O j≠0->O j≠9->V.heap[j]? =W.heap[j]? :=fun j h0 h9=>hg.block j (h.lt j h0) (fun e=>h9 (by rw [Option.some.inj e];exact o9))
 refine ⟨⟨h.mod.block hg.size (kb _ (by rw [h.o1];omega) (by rw [h.o1];omega)),h.que.kept fun _=>kb _ (by rw [h.o2];omega) (by rw [h.o2];omega),tree_block h.tre hg.size (kb _ (by rw [h.o3];omega) (by rw [h.o3];omega)),h.goo,h.prm.block (kb _ (by rw [h.o4];omega) (by rw [h.o4];omega)),(kb _ (by rw [h.o5];omega) (by rw [h.o5];omega)).trans h.pro,list_block h.lis hg.size fun g eg _ hl=>kb g (by rw [h.o6 g eg hl];omega) (by rw [h.o6 g eg hl];omega),h.cap,h.few,h.led.block (kb _ (by rw [h.o7];omega) (by rw [h.o7];omega)),h.way.block (kb _ (by rw [h.o8];omega) (by rw [h.o8];omega)),h.wbd,fun p1 c1 e=> ?_,h.o1,h.o2,h.o3,h.o4,h.o5,h.o7,h.o8,h.o6,fun j hj=>Nat.lt_of_lt_of_le (h.lt j hj) hg.size⟩,kept_grown hg fun j hj=>⟨fun e=>by have:=hj.1;rw [e,o9] at this;omega,hj.2⟩⟩
 obtain ⟨d1,d2,d3⟩:=h.con p1 c1 e
 by_cases ec:c1=c
 . subst ec
   refine ⟨?_,?_,d3⟩
   . show Page V c1 (if c1=c1 then b else P.B c1)
     rw [if_pos rfl];exact hp
   . show ∀ i,0<=(if c1=c1 then b else P.B c1) i/\(if c1=c1 then b else P.B c1) i<256
     rw [if_pos rfl];exact hb
 . refine ⟨?_,?_,d3⟩
   . show Page V c1 (if c1=c then b else P.B c1)
     rw [if_neg ec]
     exact page_block d1 (hg.block c1 (h.lt c1 (by omega)) (fun e=>ec (Option.some.inj e)))
   . show ∀ i,0<=(if c1=c then b else P.B c1) i/\(if c1=c then b else P.B c1) i<256
     rw [if_neg ec];exact d2
theorem cset_bd {B:Nat->Int} (h: ∀ i,0<=B i/\B i<256) (a m:Nat) (x:Int): ∀ i,0<=cset B a m x i/\cset B a m x i<256:=fun i=>by
 unfold cset
 split
 . exact ⟨Int.emod_nonneg _ (by omega),Int.emod_lt_of_pos _ (by omega)⟩
 . exact h i
end Go.Proofs.YtlaiadheelgbdaaGreat.Fl
namespace Go.Proofs.YtlaiadheelgbdaaGreat.Fl
open Go.ChangeShapes Go.WideShapes Go.ChangeAt Go.RowKit Go.Maps
set_option linter.unusedSimpArgs false
set_option linter.unusedVariables false
set_option maxRecDepth 8000
theorem ifif {α :Type} (c:Nat) (a b: α) (f:Nat-> α):(fun y=>if y=c then a else (if y=c then b else f y))=(fun y=>if y=c then a else f y):=by
 funext y
 by_cases e:y=c
 . rw [if_pos e,if_pos e]
 . rw [if_neg e,if_neg e,if_neg e]
theorem grown_of_below {w w':World} (h:Below w.heap.size w w') (r:Option Nat):w.grownBy w' r:=⟨h.os,h.tape,h.output,h.size,fun k hk _=>h.block k hk⟩
theorem wanted_mp {c:Prop} [Decidable c] {a b:Prop} (h:c) (ha:a):if c then a else b:=by rw [if_pos h];exact ha
set_option maxHeartbeats 4000000 in
theorem access_new {O:Nat->Nat} {n:Nat} {W:World} {M:Fb} {Q:Ca.Qu} {T:Nat->Qo.Nd} {root:Int} {P:Fp} (h:Fm O n W M Q T root P) (k1 k2:Int) (k3 k4 k5:Bool) (ad sz x k6 k7 k8 k9:Int) (p:Int) (hp:ad / 4096=p) (a0:0<=ad) (a1:ad<140737488355328) (s0:0<=sz) (s8:sz<=8) (am:ad % 4096+sz<=4096) (x0:0<=x) (x1:x<18446744073709551616) (g1 g2 gk:Int) (gx:Bool) (hz:Re.findR P.L p=(⟨g1,g2,true,true,gx,gk⟩,true)) (hF:P.F p=none) (hmay:Qo.mayN T P.k (costN (p / 512) (p / 262144) (p / 134217728) P.G 3)=0) (hn:n<900000) :
 Calls Tryz.prog 26 #[pp M.mb,pp M.pb,.agg #[.int .i64 5,.int .i64 k1,.int .i64 k2,.bool k3,.bool k4,.bool k5,.int .u64 ad,.int .i64 sz,.int .u64 x,.int .i64 k6,.int .i64 k7,.int .i64 k8,.int .i64 k9]] W fun e w'=>e=.returned (.agg #[.int .i64 0,.int .u64 0,.int .i64 0,.int .u64 0,.int .i64 0,.bool false])/\ ∃ O' c,Fm O' (n+6) w' M Q (Qo.chargeT T P.k (costN (p / 512) (p / 262144) (p / 134217728) P.G 3)) root { P with F:=put P.F p (some c),B:=(fun y9=>if y9=c then (cset (fun _=>0) (ad % 4096).toNat sz.toNat x) else P.B y9),G:=bumpN (p / 512) (p / 262144) (p / 134217728) P.G 3 }/\(∀ j,j<W.heap.size->O' j=O j)/\Ko O W w':=by
 have FC:Hid (∀ w:World,Below W.heap.size W w->Calls Tryz.prog 46 #[.slice P.rp P.L.length P.rc,.int .i64 p] w fun e w'=>e=.returned (.tuple #[.agg #[.int .i64 g1,.int .i64 g2,.bool true,.bool true,.bool gx,.int .i64 gk],.bool true])/\Below w.heap.size w w'):=fun w hb=>by
  have q:=Re.find_any 0 P.rp P.rc P.L (by have:=h.few;omega) p w (h.lis.below hb)
  rw [hz] at q;exact q
 have YC:Hid (∀ w:World,Calls Tryz.prog 47 #[.agg #[.bool true,.bool true,.bool gx],.agg #[.bool true,.bool true,.bool false]] w fun e w'=>e=.returned (.bool true)/\Below w.heap.size w w'):=fun w=>by
  have q:=may_any true true gx true true false w
  rw [show mayV true true gx true true false=true by rfl] at q;exact q
 have s1:(W.alloc (.cells #[.int .i64 5,.int .i64 k1,.int .i64 k2,.bool k3,.bool k4,.bool k5,.int .u64 ad,.int .i64 sz,.int .u64 x,.int .i64 k6,.int .i64 k7,.int .i64 k8,.int .i64 k9] 59)).heap.size=W.heap.size+1:=World.size_alloc _ _
 have s2:((W.alloc (.cells #[.int .i64 5,.int .i64 k1,.int .i64 k2,.bool k3,.bool k4,.bool k5,.int .u64 ad,.int .i64 sz,.int .u64 x,.int .i64 k6,.int .i64 k7,.int .i64 k8,.int .i64 k9] 59)).alloc (.cells #[.int .i64 0,.int .u64 0,.int .i64 0,.int .u64 0,.int .i64 0,.bool false] 39)).heap.size=W.heap.size+1+1:=by rw [World.size_alloc,s1]
 have G0:Hid (Below W.heap.size W (((W.alloc (.cells #[.int .i64 5,.int .i64 k1,.int .i64 k2,.bool k3,.bool k4,.bool k5,.int .u64 ad,.int .i64 sz,.int .u64 x,.int .i64 k6,.int .i64 k7,.int .i64 k8,.int .i64 k9] 59)).alloc (.cells #[.int .i64 0,.int .u64 0,.int .i64 0,.int .u64 0,.int .i64 0,.bool false] 39)).alloc (.cells #[.bool true,.bool true,.bool false] 115))/\Blk (((W.alloc (.cells #[.int .i64 5,.int .i64 k1,.int .i64 k2,.bool k3,.bool k4,.bool k5,.int .u64 ad,.int .i64 sz,.int .u64 x,.int .i64 k6,.int .i64 k7,.int .i64 k8,.int .i64 k9] 59)).alloc (.cells #[.int .i64 0,.int .u64 0,.int .i64 0,.int .u64 0,.int .i64 0,.bool false] 39)).alloc (.cells #[.bool true,.bool true,.bool false] 115)) W.heap.size [.int .i64 5,.int .i64 k1,.int .i64 k2,.bool k3,.bool k4,.bool k5,.int .u64 ad,.int .i64 sz,.int .u64 x,.int .i64 k6,.int .i64 k7,.int .i64 k8,.int .i64 k9] 59/\Blk (((W.alloc (.cells #[.int .i64 5,.int .i64 k1,.int .i64 k2,.bool k3,.bool k4,.bool k5,.int .u64 ad,.int .i64 sz,.int .u64 x,.int .i64 k6,.int .i64 k7,.int .i64 k8,.int .i64 k9] 59)).alloc (.cells #[.int .i64 0,.int .u64 0,.int .i64 0,.int .u64 0,.int .i64 0,.bool false] 39)).alloc (.cells #[.bool true,.bool true,.bool false] 115)) (W.heap.size+1) [.int .i64 0,.int .u64 0,.int .i64 0,.int .u64 0,.int .i64 0,.bool false] 39/\Blk (((W.alloc (.cells #[.int .i64 5,.int .i64 k1,.int .i64 k2,.bool k3,.bool k4,.bool k5,.int .u64 ad,.int .i64 sz,.int .u64 x,.int .i64 k6,.int .i64 k7,.int .i64 k8,.int .i64 k9] 59)).alloc (.cells #[.int .i64 0,.int .u64 0,.int .i64 0,.int .u64 0,.int .i64 0,.bool false] 39)).alloc (.cells #[.bool true,.bool true,.bool false] 115)) (W.heap.size+1+1) [.bool true,.bool true,.bool false] 115):=by
  have b1:Below (W.alloc (.cells #[.int .i64 5,.int .i64 k1,.int .i64 k2,.bool k3,.bool k4,.bool k5,.int .u64 ad,.int .i64 sz,.int .u64 x,.int .i64 k6,.int .i64 k7,.int .i64 k8,.int .i64 k9] 59)).heap.size (W.alloc (.cells #[.int .i64 5,.int .i64 k1,.int .i64 k2,.bool k3,.bool k4,.bool k5,.int .u64 ad,.int .i64 sz,.int .u64 x,.int .i64 k6,.int .i64 k7,.int .i64 k8,.int .i64 k9] 59)) ((W.alloc (.cells #[.int .i64 5,.int .i64 k1,.int .i64 k2,.bool k3,.bool k4,.bool k5,.int .u64 ad,.int .i64 sz,.int .u64 x,.int .i64 k6,.int .i64 k7,.int .i64 k8,.int .i64 k9] 59)).alloc (.cells #[.int .i64 0,.int .u64 0,.int .i64 0,.int .u64 0,.int .i64 0,.bool false] 39)):=Go.Joins.below_alloc1 _ _
  have b2:Below ((W.alloc (.cells #[.int .i64 5,.int .i64 k1,.int .i64 k2,.bool k3,.bool k4,.bool k5,.int .u64 ad,.int .i64 sz,.int .u64 x,.int .i64 k6,.int .i64 k7,.int .i64 k8,.int .i64 k9] 59)).alloc (.cells #[.int .i64 0,.int .u64 0,.int .i64 0,.int .u64 0,.int .i64 0,.bool false] 39)).heap.size ((W.alloc (.cells #[.int .i64 5,.int .i64 k1,.int .i64 k2,.bool k3,.bool k4,.bool k5,.int .u64 ad,.int .i64 sz,.int .u64 x,.int .i64 k6,.int .i64 k7,.int .i64 k8,.int .i64 k9] 59)).alloc (.cells #[.int .i64 0,.int .u64 0,.int .i64 0,.int .u64 0,.int .i64 0,.bool false] 39)) (((W.alloc (.cells #[.int .i64 5,.int .i64 k1,.int .i64 k2,.bool k3,.bool k4,.bool k5,.int .u64 ad,.int .i64 sz,.int .u64 x,.int .i64 k6,.int .i64 k7,.int .i64 k8,.int .i64 k9] 59)).alloc (.cells #[.int .i64 0,.int .u64 0,.int .i64 0,.int .u64 0,.int .i64 0,.bool false] 39)).alloc (.cells #[.bool true,.bool true,.bool false] 115)):=Go.Joins.below_alloc1 _ _
  refine ⟨below_then (below_then (Go.Joins.below_alloc1 _ _) b1) b2,((Blk.made _ _ _).below b1).below b2,?_,?_⟩
  . rw [<- s1];exact (Blk.made _ _ _).below b2
  . rw [<- s2];exact Blk.made _ _ _
 have HM:Hid (Fm O n W M Q T root P):=h
 clear h s1 s2 hz
 go_enter Tryz.func26,Tryz.ntmps26
 go_upto_region 3 with fail
 generalize (((W.alloc (.cells #[.int .i64 5,.int .i64 k1,.int .i64 k2,.bool k3,.bool k4,.bool k5,.int .u64 ad,.int .i64 sz,.int .u64 x,.int .i64 k6,.int .i64 k7,.int .i64 k8,.int .i64 k9] 59)).alloc (.cells #[.int .i64 0,.int .u64 0,.int .i64 0,.int .u64 0,.int .i64 0,.bool false] 39)).alloc (.cells #[.bool true,.bool true,.bool false] 115))=V3 at G0 |-
 obtain ⟨b3,hb3⟩: ∃ b3,b3=W.heap.size+1+1:=⟨_,rfl⟩
 obtain ⟨b2,hb2⟩: ∃ b2,b2=W.heap.size+1:=⟨_,rfl⟩
 obtain ⟨b1,hb1⟩: ∃ b1,b1=W.heap.size:=⟨_,rfl⟩
 have G1:Hid (Below W.heap.size W V3/\Blk V3 b1 [.int .i64 5,.int .i64 k1,.int .i64 k2,.bool k3,.bool k4,.bool k5,.int .u64 ad,.int .i64 sz,.int .u64 x,.int .i64 k6,.int .i64 k7,.int .i64 k8,.int .i64 k9] 59/\Blk V3 b2 [.int .i64 0,.int .u64 0,.int .i64 0,.int .u64 0,.int .i64 0,.bool false] 39/\Blk V3 b3 [.bool true,.bool true,.bool false] 115):=by rw [hb3,hb2,hb1];exact G0.out
 have NB:Hid (W.heap.size<=b1/\W.heap.size<=b2/\b1≠b2):=⟨by omega,by omega,by omega⟩
 rw [<- hb3,<- hb2,<- hb1]
 clear hb1 hb2 hb3 G0
 have HA:Hid (ad / 4096=p/\0<=ad/\ad<140737488355328/\0<=sz/\sz<=8/\ad % 4096+sz<=4096):=⟨hp,a0,a1,s0,s8,am⟩
 have c15:V3.cell? ⟨M.pb,15,none⟩=some (.slice P.rp P.L.length P.rc):=(HM.out.pro.below G1.out.1).cell 15
 clear hp a0 a1 s0 s8 am
 go_wp2_with fail
 refine Calls.mono (FC.out _ G1.out.1) ?_
 rintro e w4 ⟨rfl,hb4⟩
 have G4:Hid (Below W.heap.size W (w4.alloc (.cells #[.int .i64 g1,.int .i64 g2,.bool true,.bool true,.bool gx,.int .i64 gk] 117))/\Blk (w4.alloc (.cells #[.int .i64 g1,.int .i64 g2,.bool true,.bool true,.bool gx,.int .i64 gk] 117)) b1 [.int .i64 5,.int .i64 k1,.int .i64 k2,.bool k3,.bool k4,.bool k5,.int .u64 ad,.int .i64 sz,.int .u64 x,.int .i64 k6,.int .i64 k7,.int .i64 k8,.int .i64 k9] 59/\Blk (w4.alloc (.cells #[.int .i64 g1,.int .i64 g2,.bool true,.bool true,.bool gx,.int .i64 gk] 117)) b2 [.int .i64 0,.int .u64 0,.int .i64 0,.int .u64 0,.int .i64 0,.bool false] 39/\Blk (w4.alloc (.cells #[.int .i64 g1,.int .i64 g2,.bool true,.bool true,.bool gx,.int .i64 gk] 117)) b3 [.bool true,.bool true,.bool false] 115/\Blk (w4.alloc (.cells #[.int .i64 g1,.int .i64 g2,.bool true,.bool true,.bool gx,.int .i64 gk] 117)) w4.heap.size [.int .i64 g1,.int .i64 g2,.bool true,.bool true,.bool gx,.int .i64 gk] 117):=by
  have b5:Below w4.heap.size w4 (w4.alloc (.cells #[.int .i64 g1,.int .i64 g2,.bool true,.bool true,.bool gx,.int .i64 gk] 117)):=Go.Joins.below_alloc1 _ _
  have b6:=below_then hb4 b5
  exact ⟨below_then G1.out.1 b6,G1.out.2.1.below b6,G1.out.2.2.1.below b6,G1.out.2.2.2.below b6,Blk.made _ _ _⟩
 clear hb4 FC c15 G1
 go_upto_region 4 with fail
 generalize (w4.alloc (.cells #[.int .i64 g1,.int .i64 g2,.bool true,.bool true,.bool gx,.int .i64 gk] 117))=V5 at G4 |-
 obtain ⟨q,hq⟩: ∃ q,q=w4.heap.size:=⟨_,rfl⟩
 have G5:Hid (Below W.heap.size W V5/\Blk V5 b1 [.int .i64 5,.int .i64 k1,.int .i64 k2,.bool k3,.bool k4,.bool k5,.int .u64 ad,.int .i64 sz,.int .u64 x,.int .i64 k6,.int .i64 k7,.int .i64 k8,.int .i64 k9] 59/\Blk V5 b2 [.int .i64 0,.int .u64 0,.int .i64 0,.int .u64 0,.int .i64 0,.bool false] 39/\Blk V5 b3 [.bool true,.bool true,.bool false] 115/\Blk V5 q [.int .i64 g1,.int .i64 g2,.bool true,.bool true,.bool gx,.int .i64 gk] 117):=by rw [hq];exact G4.out
 rw [<- hq]
 clear hq G4
 have x2:V5.cell? ⟨q,2,none⟩=some (.bool true):=G5.out.2.2.2.2.cell 2
 have x3:V5.cell? ⟨q,3,none⟩=some (.bool true):=G5.out.2.2.2.2.cell 3
 have x4:V5.cell? ⟨q,4,none⟩=some (.bool gx):=G5.out.2.2.2.2.cell 4
 have y0:V5.cell? ⟨b3,0,none⟩=some (.bool true):=G5.out.2.2.2.1.cell 0
 have y1:V5.cell? ⟨b3,1,none⟩=some (.bool true):=G5.out.2.2.2.1.cell 1
 have y2:V5.cell? ⟨b3,2,none⟩=some (.bool false):=G5.out.2.2.2.1.cell 2
 go_wp2_with fail
 refine Calls.mono (YC.out _) ?_
 rintro e w6 ⟨rfl,hb6⟩
 have G6:Hid (Below W.heap.size W w6/\Blk w6 b1 [.int .i64 5,.int .i64 k1,.int .i64 k2,.bool k3,.bool k4,.bool k5,.int .u64 ad,.int .i64 sz,.int .u64 x,.int .i64 k6,.int .i64 k7,.int .i64 k8,.int .i64 k9] 59/\Blk w6 b2 [.int .i64 0,.int .u64 0,.int .i64 0,.int .u64 0,.int .i64 0,.bool false] 39):=⟨below_then G5.out.1 hb6,G5.out.2.1.below hb6,G5.out.2.2.1.below hb6⟩
 clear hb6 YC x2 x3 x4 y0 y1 y2 G5
 have M6:Hid (Fm O n w6 M Q T root P):=HM.out.below G6.out.1
 have c16:w6.cell? ⟨M.pb,16,none⟩=some (.map (some M.lb)):=M6.out.pro.cell 16
 have HPW:Hid ((Lit.int .i64 p).wf=true):=wf64 (by have:=HA.out;omega) (by have:=HA.out;omega)
 have lk:(Instr.lookup 74 (.map (some M.lb)) (.int .i64 p) false).run Tryz.prog w6=.ok (.pointer none) w6:=by
  have q:=M6.out.led.look HPW.out
  rw [hF] at q;exact q
 obtain ⟨zs,hbuild,hzs⟩:=zero_page
 have LC:Hid (Calls Tryz.prog 50 #[pp M.mb,pp M.pb,.int .i64 p,.int .i64 0,.pointer (some ⟨w6.heap.size,0,none⟩)] (w6.alloc (.cells zs 126)) fun e w'=>e=.returned (.int .i64 0)/\(∃ c,c=w6.heap.size/\Fm (fun j=>if j=c then 9 else O j) (n+6) w' M Q (Qo.chargeT T P.k (costN (p / 512) (p / 262144) (p / 134217728) P.G 3)) root { P with F:=put P.F p (some c),B:=(fun y9=>if y9=c then (fun _=>0) else P.B y9),G:=bumpN (p / 512) (p / 262144) (p / 134217728) P.G 3 }/\W.heap.size<=c/\Kept (fun j=>j≠M.tb/\j≠M.lb/\j≠M.wb/\j<w6.heap.size) w6 w'/\Ko O W w')):=by
  have hb7:Below w6.heap.size w6 (w6.alloc (.cells zs 126)):=Go.Joins.below_alloc1 _ _
  have m7:=M6.out.below hb7
  have ha:=HA.out
  have o1:=M6.out.o1
  have o3:=M6.out.o3
  have o5:=M6.out.o5
  have o7:=M6.out.o7
  have o8:=M6.out.o8
  have ne: ∀ {a b u v:Nat},O a=u->O b=v->u≠v->a≠b:=fun {a b u v} h1 h2 h3 e=>h3 (by rw [<- h1,<- h2,e])
  have q:=lead_ok M.mb M.tq M.tb M.pm M.pb M.lb M.wb w6.heap.size 0 P.k P.rp P.L.length P.rc n T root P.F P.G p (by omega) (by omega) (by omega) _ m7.mod m7.pro m7.tre m7.led m7.way m7.goo hmay (fun a b=>by have:=m7.wbd a b;omega) ⟨ne o1 o8 (by omega),ne o1 o3 (by omega),ne o5 o3 (by omega),ne o5 o8 (by omega),ne o7 o3 (by omega),ne o7 o8 (by omega),ne o8 o3 (by omega),ne o1 o7 (by omega),ne o5 o7 (by omega)⟩
  refine Calls.mono q ?_
  rintro e u7 ⟨he,hT7,hL7,hW7,hK7⟩
  have sz:w6.heap.size<(w6.alloc (.cells zs 126)).heap.size:=by rw [World.size_alloc];omega
  obtain ⟨k1,k2⟩:=M6.out.lead (c:=w6.heap.size) hb7 (Nat.le_refl _) sz (page_made w6 zs hzs) hT7 hL7 hW7 hK7
  refine ⟨he,w6.heap.size,rfl,k1,G6.out.1.size,(kept_of_below hb7 (fun j hj=>hj.2.2.2)).trans (hK7.sub (fun j hj=>⟨hj.1,hj.2.1,hj.2.2.1,by omega⟩)),(Ko.of_below G6.out.1).trans (k2.sub (fun j hj=>⟨hj.1,Nat.lt_of_lt_of_le hj.2 G6.out.1.size⟩))⟩
 clear hzs hmay hF hn
 go_wp2_with fail
 refine Calls.mono LC.out ?_
 rintro e V ⟨rfl,c,hc,hM7,hwc,hK7,hKo⟩
 have M7:Hid (Fm (fun j=>if j=c then 9 else O j) (n+6) V M Q (Qo.chargeT T P.k (costN (p / 512) (p / 262144) (p / 134217728) P.G 3)) root { P with F:=put P.F p (some c),B:=(fun y9=>if y9=c then (fun _=>0) else P.B y9),G:=bumpN (p / 512) (p / 262144) (p / 134217728) P.G 3 }/\Ko O W V):=⟨hM7,hKo⟩
 have G7:Hid (Blk V b1 [.int .i64 5,.int .i64 k1,.int .i64 k2,.bool k3,.bool k4,.bool k5,.int .u64 ad,.int .i64 sz,.int .u64 x,.int .i64 k6,.int .i64 k7,.int .i64 k8,.int .i64 k9] 59/\Blk V b2 [.int .i64 0,.int .u64 0,.int .i64 0,.int .u64 0,.int .i64 0,.bool false] 39/\W.heap.size<=c/\b1≠c/\b2≠c):=by
  obtain ⟨g1,g2,g3⟩:=G6.out
  have nb:=NB.out
  have ml:=HM.out.lt
  have l3:=ml M.tb (by rw [HM.out.o3];omega)
  have l7:=ml M.lb (by rw [HM.out.o7];omega)
  have l8:=ml M.wb (by rw [HM.out.o8];omega)
  have t1:=g2.lt
  have t2:=g3.lt
  exact ⟨(hK7.block b1 ⟨by omega,by omega,by omega,t1⟩).trans g2,(hK7.block b2 ⟨by omega,by omega,by omega,t2⟩).trans g3,hwc,by omega,by omega⟩
 clear hc hM7 hwc hK7 hKo LC lk c16 hbuild M6
 have BS:Hid (Blk V M.pb [.int .i64 0,.int .i64 P.k,.int .u64 0,.int .u64 0,.int .u64 0,.int .u64 0,.int .i64 0,.int .u64 0,.bool false,.int .u64 0,.int .i64 0,.int .u64 0,.int .u64 0,.int .u64 0,.int .u64 0,.slice P.rp P.L.length P.rc,.map (some M.lb),.map (some M.wb)] 77/\Blk V b1 [.int .i64 5,.int .i64 k1,.int .i64 k2,.bool k3,.bool k4,.bool k5,.int .u64 ad,.int .i64 sz,.int .u64 x,.int .i64 k6,.int .i64 k7,.int .i64 k8,.int .i64 k9] 59/\MapL V M.lb (n+6) (put P.F p (some c))):=⟨M7.out.1.pro,G7.out.1,M7.out.1.led⟩
 have fc:put P.F p (some c) p=some c:=if_pos rfl
 have bc:(fun y9=>if y9=c then (fun _=>(0:Int)) else P.B y9) c=fun _=>0:=if_pos rfl
 have PG:Hid (Page V c (fun _=>0)/\c<V.heap.size):=by
  have q:=(M7.out.1.con p c fc).1
  have q:Page V c ((fun y9=>if y9=c then (fun _=>(0:Int)) else P.B y9) c):=q
  rw [bc] at q
  exact ⟨q,M7.out.1.lt c (by show (if c=c then 9 else O c)≠0;rw [if_pos rfl];omega)⟩
 have LKC:Hid (∀ w:World,MapL w M.lb (n+6) (put P.F p (some c))->(Instr.lookup 74 (.map (some M.lb)) (.int .i64 p) false).run Tryz.prog w=.ok (.pointer (some ⟨c,0,none⟩)) w):=fun w hw=>by
  have q:=hw.look HPW.out
  rw [fc] at q;exact q
 clear fc bc
 have HX:Hid (0<=x/\x<18446744073709551616):=⟨x0,x1⟩
 clear x0 x1
 have B2:Hid (Blk V b2 [.int .i64 0,.int .u64 0,.int .i64 0,.int .u64 0,.int .i64 0,.bool false] 39):=G7.out.2.1
 have NE:Hid (M.pb≠c/\b1≠c/\M.lb≠c/\b2≠c/\M.pb≠b2/\b1≠b2/\M.lb≠b2):=by
  obtain ⟨_,_,h3,h4,h5⟩:=G7.out
  have nb:=NB.out
  have l5:=HM.out.lt M.pb (by rw [HM.out.o5];omega)
  have l7:=HM.out.lt M.lb (by rw [HM.out.o7];omega)
  exact ⟨by omega,h4,by omega,h5,by omega,nb.2.2,by omega⟩
 have MC:Hid (∀ w:World,Page w c (fun _=>0)->c<w.heap.size->_):=fun w hw hl=>move_store c (fun _=>0) k1 k2 k3 k4 k5 ad sz x k6 k7 k8 k9 w hw hl HA.out.2.1 HA.out.2.2.1 HA.out.2.2.2.1 HA.out.2.2.2.2.1 HA.out.2.2.2.2.2 HX.out.1 HX.out.2
 go_upto_region 10 with fail
 refine wp_region_noPanic ?_
 refine wp_region_held_drew (S:=fun cw=>Blk cw M.pb [.int .i64 0,.int .i64 P.k,.int .u64 0,.int .u64 0,.int .u64 0,.int .u64 0,.int .i64 0,.int .u64 0,.bool false,.int .u64 0,.int .i64 0,.int .u64 0,.int .u64 0,.int .u64 0,.int .u64 0,.slice P.rp P.L.length P.rc,.map (some M.lb),.map (some M.wb)] 77/\Blk cw b1 [.int .i64 5,.int .i64 k1,.int .i64 k2,.bool k3,.bool k4,.bool k5,.int .u64 ad,.int .i64 sz,.int .u64 x,.int .i64 k6,.int .i64 k7,.int .i64 k8,.int .i64 k9] 59/\MapL cw M.lb (n+6) (put P.F p (some c))) (by kernel_rfl) ?_ (fun hHeld=> ?_)
 . exact BS.out
 have KU:Hid (Below V.heap.size V V.drew):=below_drew (Below.refl _ _)
 change Hid (Page V.drew c (fun _=>0)/\c<V.drew.heap.size) at PG
 change Hid (Blk V.drew b2 [.int .i64 0,.int .u64 0,.int .i64 0,.int .u64 0,.int .i64 0,.bool false] 39) at B2
 clear BS
 generalize V.drew=U at hHeld KU PG B2 |-
 refine tk 0 69 ?_ rfl (Or.inl ⟨by rfl,?_⟩) ?_
 rotate_left
 . intro w hSw;(try dsimp only at hSw);go_simp;(try with_reducible rfl)
 try simp only [Act.put,z1,z2,z3]
 refine tk 1 70 ?_ rfl (Or.inl ⟨by rfl,?_⟩) ?_
 rotate_left
 . intro w hSw;(try dsimp only at hSw);go_simp;(try with_reducible rfl)
 try simp only [Act.put,z1,z2,z3]
 refine tk 2 71 ?_ rfl (Or.inl ⟨by rfl,?_⟩) ?_
 rotate_left
 . intro w hSw;(try dsimp only at hSw);go_simp;(try with_reducible rfl)
 try simp only [Act.put,z1,z2,z3]
 refine tk 3 72 ((.map (some M.lb))) rfl (Or.inl ⟨by rfl,?_⟩) ?_
 . intro w hSw;(try dsimp only at hSw);have r:=Blk.cell hSw.1 16;(try go_simp);(try simp [*])
 try simp only [Act.put,z1,z2,z3]
 refine tk 4 73 ?_ rfl (Or.inl ⟨by rfl,?_⟩) ?_
 rotate_left
 . intro w hSw;(try dsimp only at hSw);go_simp;(try with_reducible rfl)
 try simp only [Act.put,z1,z2,z3]
 refine tk 5 74 ((.pointer (some ⟨c,0,none⟩))) rfl (Or.inl ⟨by rfl,?_⟩) ?_
 . intro w hSw;(try dsimp only at hSw);have r:=LKC.out w hSw.2.2;(try go_simp);(try simp [*])
 try simp only [Act.put,z1,z2,z3]
 refine tk 6 75 (.agg #[.int .i64 5,.int .i64 k1,.int .i64 k2,.bool k3,.bool k4,.bool k5,.int .u64 ad,.int .i64 sz,.int .u64 x,.int .i64 k6,.int .i64 k7,.int .i64 k8,.int .i64 k9]) rfl (Or.inl ⟨by rfl,?_⟩) ?_
 . intro w hSw;(try dsimp only at hSw);have r0:=Blk.cell hSw.2.1 0;have r1:=Blk.cell hSw.2.1 1;have r2:=Blk.cell hSw.2.1 2;have r3:=Blk.cell hSw.2.1 3;have r4:=Blk.cell hSw.2.1 4;have r5:=Blk.cell hSw.2.1 5;have r6:=Blk.cell hSw.2.1 6;have r7:=Blk.cell hSw.2.1 7;have r8:=Blk.cell hSw.2.1 8;have r9:=Blk.cell hSw.2.1 9;have r10:=Blk.cell hSw.2.1 10;have r11:=Blk.cell hSw.2.1 11;have r12:=Blk.cell hSw.2.1 12;(try go_simp);(try simp [*])
 try simp only [Act.put,z1,z2,z3]
 refine wpAnyH_ready (rs:=[7]) (by kernel_rfl) (by simp) ?_
 refine AllReadyH.cons (o:=⟨some 76,_,_,_,_,none⟩) rfl (fun K hK=> ?_) AllReadyH.nil
 go_simp
 go_wp2_with (go_at_call 51;refine Calls.mono (MC.out _ PG.out.1 PG.out.2) ?_;rintro e u8 ⟨rfl,hp8,hg8⟩)
 have KU8:Hid (Page u8 c (cset (fun _=>0) (ad % 4096).toNat sz.toNat x)/\V.grownBy u8 (some c)):=⟨hp8,grown_trans (grown_of_below KU.out _) hg8⟩
 have ne:=NE.out
 have B28:Hid (Blk u8 b2 [.int .i64 0,.int .u64 0,.int .i64 0,.int .u64 0,.int .i64 0,.bool false] 39):=(hg8.block _ B2.out.lt (fun e=>ne.2.2.2.1 (Option.some.inj e))).trans B2.out
 have S8:Hid (Blk u8 M.pb [.int .i64 0,.int .i64 P.k,.int .u64 0,.int .u64 0,.int .u64 0,.int .u64 0,.int .i64 0,.int .u64 0,.bool false,.int .u64 0,.int .i64 0,.int .u64 0,.int .u64 0,.int .u64 0,.int .u64 0,.slice P.rp P.L.length P.rc,.map (some M.lb),.map (some M.wb)] 77/\Blk u8 b1 [.int .i64 5,.int .i64 k1,.int .i64 k2,.bool k3,.bool k4,.bool k5,.int .u64 ad,.int .i64 sz,.int .u64 x,.int .i64 k6,.int .i64 k7,.int .i64 k8,.int .i64 k9] 59/\MapL u8 M.lb (n+6) (put P.F p (some c))):=⟨(hg8.block _ hHeld.1.lt (fun e=>ne.1 (Option.some.inj e))).trans hHeld.1,(hg8.block _ hHeld.2.1.lt (fun e=>ne.2.1 (Option.some.inj e))).trans hHeld.2.1,hHeld.2.2.block (hg8.block _ hHeld.2.2.lt (fun e=>ne.2.2.1 (Option.some.inj e)))⟩
 refine hK.out _ _ S8.out (fun hHeld2=> ?_)
 clear hK K hHeld hp8 hg8 ne S8 KU
 have hHeld:=hHeld2
 clear hHeld2
 try simp only [Act.put,z1,z2,z3]
 refine wpAnyH_ready (rs:=[8]) (by kernel_rfl) (by simp) ?_
 refine AllReadyH.cons (o:=⟨none,.store 39 (.tmp 6) (.tmp 76),_,_,_,none⟩) rfl (fun K hK=> ?_) AllReadyH.nil
 refine wanted_mp rfl ?_
 have th:u8.there b2 0 6:=B28.out.there
 refine wp_store_mid _ _ _ rfl b2 0 #[.int .i64 0,.int .u64 0,.int .i64 0,.int .u64 0,.int .i64 0,.bool false] rfl rfl th (by kernel_rfl) (by simp [Value.oneCell']) ?_
 (try simp only [List.toList_toArray])
 have gk:=grown_setCells b2 [.int .i64 0,.int .u64 0,.int .i64 0,.int .u64 0,.int .i64 0,.bool false] 0 u8
 have ne:=NE.out
 have F9:Hid (Blk (u8.setCells b2 0 [.int .i64 0,.int .u64 0,.int .i64 0,.int .u64 0,.int .i64 0,.bool false]) b2 [.int .i64 0,.int .u64 0,.int .i64 0,.int .u64 0,.int .i64 0,.bool false] 39):=B28.out.put rfl
 have S9:Hid (Blk (u8.setCells b2 0 [.int .i64 0,.int .u64 0,.int .i64 0,.int .u64 0,.int .i64 0,.bool false]) M.pb [.int .i64 0,.int .i64 P.k,.int .u64 0,.int .u64 0,.int .u64 0,.int .u64 0,.int .i64 0,.int .u64 0,.bool false,.int .u64 0,.int .i64 0,.int .u64 0,.int .u64 0,.int .u64 0,.int .u64 0,.slice P.rp P.L.length P.rc,.map (some M.lb),.map (some M.wb)] 77/\Blk (u8.setCells b2 0 [.int .i64 0,.int .u64 0,.int .i64 0,.int .u64 0,.int .i64 0,.bool false]) b1 [.int .i64 5,.int .i64 k1,.int .i64 k2,.bool k3,.bool k4,.bool k5,.int .u64 ad,.int .i64 sz,.int .u64 x,.int .i64 k6,.int .i64 k7,.int .i64 k8,.int .i64 k9] 59/\MapL (u8.setCells b2 0 [.int .i64 0,.int .u64 0,.int .i64 0,.int .u64 0,.int .i64 0,.bool false]) M.lb (n+6) (put P.F p (some c))):=⟨(gk.block _ hHeld.1.lt (fun e=>ne.2.2.2.2.1 (Option.some.inj e))).trans hHeld.1,(gk.block _ hHeld.2.1.lt (fun e=>ne.2.2.2.2.2.1 (Option.some.inj e))).trans hHeld.2.1,hHeld.2.2.block (gk.block _ hHeld.2.2.lt (fun e=>ne.2.2.2.2.2.2 (Option.some.inj e)))⟩
 have HE:Hid (Fm (fun j=>if j=c then 9 else O j) (n+6) (u8.setCells b2 0 [.int .i64 0,.int .u64 0,.int .i64 0,.int .u64 0,.int .i64 0,.bool false]) M Q (Qo.chargeT T P.k (costN (p / 512) (p / 262144) (p / 134217728) P.G 3)) root { P with F:=put P.F p (some c),B:=(fun y9=>if y9=c then (cset (fun _=>0) (ad % 4096).toNat sz.toNat x) else P.B y9),G:=bumpN (p / 512) (p / 262144) (p / 134217728) P.G 3 }/\Ko O W (u8.setCells b2 0 [.int .i64 0,.int .u64 0,.int .i64 0,.int .u64 0,.int .i64 0,.bool false])):=by
  obtain ⟨m1,m2⟩:=M7.out
  have fc:put P.F p (some c) p=some c:=if_pos rfl
  obtain ⟨k1,k2⟩:=m1.poke (p:=p) (c:=c) fc KU8.out.2 KU8.out.1 (cset_bd (fun _=>⟨by omega,by omega⟩) _ _ _)
  have e:(fun y=>if y=c then (cset (fun _=>0) (ad % 4096).toNat sz.toNat x) else (if y=c then (fun _=>(0:Int)) else P.B y))=(fun y9=>if y9=c then (cset (fun _=>0) (ad % 4096).toNat sz.toNat x) else P.B y9):=ifif c _ _ _
  have k1:Fm (fun j=>if j=c then 9 else O j) (n+6) u8 M Q (Qo.chargeT T P.k (costN (p / 512) (p / 262144) (p / 134217728) P.G 3)) root { P with F:=put P.F p (some c),B:=(fun y=>if y=c then (cset (fun _=>0) (ad % 4096).toNat sz.toNat x) else (if y=c then (fun _=>(0:Int)) else P.B y)),G:=bumpN (p / 512) (p / 262144) (p / 134217728) P.G 3 }:=k1
  rw [e] at k1
  have ob:(if b2=c then 9 else O b2)=0:=by
   rw [if_neg NE.out.2.2.2.1]
   exact Classical.byContradiction fun hh=>by have:=HM.out.lt b2 hh;have:=NB.out;omega
  refine ⟨k1.keep gk.size (fun j hj=>gk.block j (k1.lt j hj) (fun e=>hj (by rw [Option.some.inj e];exact ob))),?_⟩
  refine m2.trans (Kept.trans ⟨KU8.out.2.os,KU8.out.2.tape,KU8.out.2.output,KU8.out.2.size,fun j hj=>KU8.out.2.block j (Nat.lt_of_lt_of_le hj.2 m2.size) (fun e=> ?_)⟩ ⟨gk.os,gk.tape,gk.output,gk.size,fun j hj=>gk.block j (Nat.lt_of_lt_of_le hj.2 (Nat.le_trans m2.size KU8.out.2.size)) (fun e=> ?_)⟩)
  . have:=Option.some.inj e;have:=G7.out.2.2.1;omega
  . have:=Option.some.inj e;have:=NB.out;omega
 clear gk ne
 generalize u8.setCells b2 0 [.int .i64 0,.int .u64 0,.int .i64 0,.int .u64 0,.int .i64 0,.bool false]=u9 at *
 refine hK.out _ _ S9.out (fun hHeld2=> ?_)
 clear hK K hHeld th S9 B28 KU8
 have hHeld:=hHeld2
 clear hHeld2
 try simp only [Act.put,z1,z2,z3]
 clear hHeld
 refine wpAnyH_done (by kernel_rfl) ?_ _
 refine NoPanic.normal ?_
 have LV:(loadVar 39 ⟨b2,0,none⟩).run Tryz.prog u9=.ok (.agg #[.int .i64 0,.int .u64 0,.int .i64 0,.int .u64 0,.int .i64 0,.bool false]) u9:=run_loadVar_mid (P:=Tryz.prog) _ b2 0 39 [.int .i64 0,.int .u64 0,.int .i64 0,.int .u64 0,.int .i64 0,.bool false] _ F9.out.range Tryz.underlying39 rfl (by kernel_rfl)
 go_wp2_with fail
 refine bodyPost_ret (v:=.agg #[.int .i64 0,.int .u64 0,.int .i64 0,.int .u64 0,.int .i64 0,.bool false]) (results_one Tryz.results26 _ _ _ ⟨b2,0,none⟩ _ rfl LV) rfl ?_
 exact ⟨rfl,_,c,HE.out.1,fun j hj=>if_neg (by have:=G7.out.2.2.1;omega),HE.out.2⟩
end Go.Proofs.YtlaiadheelgbdaaGreat.Fl
namespace Go.Proofs.YtlaiadheelgbdaaGreat.Fl
open Go.ChangeShapes Go.WideShapes Go.ChangeAt Go.RowKit Go.Maps
set_option linter.unusedSimpArgs false
set_option linter.unusedVariables false
set_option maxRecDepth 8000
set_option maxHeartbeats 4000000 in
theorem access_store {O:Nat->Nat} {n:Nat} {W:World} {M:Fb} {Q:Ca.Qu} {T:Nat->Qo.Nd} {root:Int} {P:Fp} (h:Fm O n W M Q T root P) (k1 k2:Int) (k3 k4 k5:Bool) (ad sz x k6 k7 k8 k9:Int) (p:Int) (hp:ad / 4096=p) (a0:0<=ad) (a1:ad<140737488355328) (s0:0<=sz) (s8:sz<=8) (am:ad % 4096+sz<=4096) (x0:0<=x) (x1:x<18446744073709551616) (g1 g2 gk:Int) (gx:Bool) (hz:Re.findR P.L p=(⟨g1,g2,true,true,gx,gk⟩,true)) (c:Nat) (hF:P.F p=some c) :
 Calls Tryz.prog 26 #[pp M.mb,pp M.pb,.agg #[.int .i64 5,.int .i64 k1,.int .i64 k2,.bool k3,.bool k4,.bool k5,.int .u64 ad,.int .i64 sz,.int .u64 x,.int .i64 k6,.int .i64 k7,.int .i64 k8,.int .i64 k9]] W fun e w'=>e=.returned (.agg #[.int .i64 0,.int .u64 0,.int .i64 0,.int .u64 0,.int .i64 0,.bool false])/\Fm O n w' M Q T root { P with B:=(fun y9=>if y9=c then (cset (P.B c) (ad % 4096).toNat sz.toNat x) else P.B y9) }/\Ko O W w':=by
 have FC:Hid (∀ w:World,Below W.heap.size W w->Calls Tryz.prog 46 #[.slice P.rp P.L.length P.rc,.int .i64 p] w fun e w'=>e=.returned (.tuple #[.agg #[.int .i64 g1,.int .i64 g2,.bool true,.bool true,.bool gx,.int .i64 gk],.bool true])/\Below w.heap.size w w'):=fun w hb=>by
  have q:=Re.find_any 0 P.rp P.rc P.L (by have:=h.few;omega) p w (h.lis.below hb)
  rw [hz] at q;exact q
 have YC:Hid (∀ w:World,Calls Tryz.prog 47 #[.agg #[.bool true,.bool true,.bool gx],.agg #[.bool true,.bool true,.bool false]] w fun e w'=>e=.returned (.bool true)/\Below w.heap.size w w'):=fun w=>by
  have q:=may_any true true gx true true false w
  rw [show mayV true true gx true true false=true by rfl] at q;exact q
 have s1:(W.alloc (.cells #[.int .i64 5,.int .i64 k1,.int .i64 k2,.bool k3,.bool k4,.bool k5,.int .u64 ad,.int .i64 sz,.int .u64 x,.int .i64 k6,.int .i64 k7,.int .i64 k8,.int .i64 k9] 59)).heap.size=W.heap.size+1:=World.size_alloc _ _
 have s2:((W.alloc (.cells #[.int .i64 5,.int .i64 k1,.int .i64 k2,.bool k3,.bool k4,.bool k5,.int .u64 ad,.int .i64 sz,.int .u64 x,.int .i64 k6,.int .i64 k7,.int .i64 k8,.int .i64 k9] 59)).alloc (.cells #[.int .i64 0,.int .u64 0,.int .i64 0,.int .u64 0,.int .i64 0,.bool false] 39)).heap.size=W.heap.size+1+1:=by rw [World.size_alloc,s1]
 have G0:Hid (Below W.heap.size W (((W.alloc (.cells #[.int .i64 5,.int .i64 k1,.int .i64 k2,.bool k3,.bool k4,.bool k5,.int .u64 ad,.int .i64 sz,.int .u64 x,.int .i64 k6,.int .i64 k7,.int .i64 k8,.int .i64 k9] 59)).alloc (.cells #[.int .i64 0,.int .u64 0,.int .i64 0,.int .u64 0,.int .i64 0,.bool false] 39)).alloc (.cells #[.bool true,.bool true,.bool false] 115))/\Blk (((W.alloc (.cells #[.int .i64 5,.int .i64 k1,.int .i64 k2,.bool k3,.bool k4,.bool k5,.int .u64 ad,.int .i64 sz,.int .u64 x,.int .i64 k6,.int .i64 k7,.int .i64 k8,.int .i64 k9] 59)).alloc (.cells #[.int .i64 0,.int .u64 0,.int .i64 0,.int .u64 0,.int .i64 0,.bool false] 39)).alloc (.cells #[.bool true,.bool true,.bool false] 115)) W.heap.size [.int .i64 5,.int .i64 k1,.int .i64 k2,.bool k3,.bool k4,.bool k5,.int .u64 ad,.int .i64 sz,.int .u64 x,.int .i64 k6,.int .i64 k7,.int .i64 k8,.int .i64 k9] 59/\Blk (((W.alloc (.cells #[.int .i64 5,.int .i64 k1,.int .i64 k2,.bool k3,.bool k4,.bool k5,.int .u64 ad,.int .i64 sz,.int .u64 x,.int .i64 k6,.int .i64 k7,.int .i64 k8,.int .i64 k9] 59)).alloc (.cells #[.int .i64 0,.int .u64 0,.int .i64 0,.int .u64 0,.int .i64 0,.bool false] 39)).alloc (.cells #[.bool true,.bool true,.bool false] 115)) (W.heap.size+1) [.int .i64 0,.int .u64 0,.int .i64 0,.int .u64 0,.int .i64 0,.bool false] 39/\Blk (((W.alloc (.cells #[.int .i64 5,.int .i64 k1,.int .i64 k2,.bool k3,.bool k4,.bool k5,.int .u64 ad,.int .i64 sz,.int .u64 x,.int .i64 k6,.int .i64 k7,.int .i64 k8,.int .i64 k9] 59)).alloc (.cells #[.int .i64 0,.int .u64 0,.int .i64 0,.int .u64 0,.int .i64 0,.bool false] 39)).alloc (.cells #[.bool true,.bool true,.bool false] 115)) (W.heap.size+1+1) [.bool true,.bool true,.bool false] 115):=by
  have b1:Below (W.alloc (.cells #[.int .i64 5,.int .i64 k1,.int .i64 k2,.bool k3,.bool k4,.bool k5,.int .u64 ad,.int .i64 sz,.int .u64 x,.int .i64 k6,.int .i64 k7,.int .i64 k8,.int .i64 k9] 59)).heap.size (W.alloc (.cells #[.int .i64 5,.int .i64 k1,.int .i64 k2,.bool k3,.bool k4,.bool k5,.int .u64 ad,.int .i64 sz,.int .u64 x,.int .i64 k6,.int .i64 k7,.int .i64 k8,.int .i64 k9] 59)) ((W.alloc (.cells #[.int .i64 5,.int .i64 k1,.int .i64 k2,.bool k3,.bool k4,.bool k5,.int .u64 ad,.int .i64 sz,.int .u64 x,.int .i64 k6,.int .i64 k7,.int .i64 k8,.int .i64 k9] 59)).alloc (.cells #[.int .i64 0,.int .u64 0,.int .i64 0,.int .u64 0,.int .i64 0,.bool false] 39)):=Go.Joins.below_alloc1 _ _
  have b2:Below ((W.alloc (.cells #[.int .i64 5,.int .i64 k1,.int .i64 k2,.bool k3,.bool k4,.bool k5,.int .u64 ad,.int .i64 sz,.int .u64 x,.int .i64 k6,.int .i64 k7,.int .i64 k8,.int .i64 k9] 59)).alloc (.cells #[.int .i64 0,.int .u64 0,.int .i64 0,.int .u64 0,.int .i64 0,.bool false] 39)).heap.size ((W.alloc (.cells #[.int .i64 5,.int .i64 k1,.int .i64 k2,.bool k3,.bool k4,.bool k5,.int .u64 ad,.int .i64 sz,.int .u64 x,.int .i64 k6,.int .i64 k7,.int .i64 k8,.int .i64 k9] 59)).alloc (.cells #[.int .i64 0,.int .u64 0,.int .i64 0,.int .u64 0,.int .i64 0,.bool false] 39)) (((W.alloc (.cells #[.int .i64 5,.int .i64 k1,.int .i64 k2,.bool k3,.bool k4,.bool k5,.int .u64 ad,.int .i64 sz,.int .u64 x,.int .i64 k6,.int .i64 k7,.int .i64 k8,.int .i64 k9] 59)).alloc (.cells #[.int .i64 0,.int .u64 0,.int .i64 0,.int .u64 0,.int .i64 0,.bool false] 39)).alloc (.cells #[.bool true,.bool true,.bool false] 115)):=Go.Joins.below_alloc1 _ _
  refine ⟨below_then (below_then (Go.Joins.below_alloc1 _ _) b1) b2,((Blk.made _ _ _).below b1).below b2,?_,?_⟩
  . rw [<- s1];exact (Blk.made _ _ _).below b2
  . rw [<- s2];exact Blk.made _ _ _
 have HM:Hid (Fm O n W M Q T root P):=h
 clear h s1 s2 hz
 go_enter Tryz.func26,Tryz.ntmps26
 go_upto_region 3 with fail
 generalize (((W.alloc (.cells #[.int .i64 5,.int .i64 k1,.int .i64 k2,.bool k3,.bool k4,.bool k5,.int .u64 ad,.int .i64 sz,.int .u64 x,.int .i64 k6,.int .i64 k7,.int .i64 k8,.int .i64 k9] 59)).alloc (.cells #[.int .i64 0,.int .u64 0,.int .i64 0,.int .u64 0,.int .i64 0,.bool false] 39)).alloc (.cells #[.bool true,.bool true,.bool false] 115))=V3 at G0 |-
 obtain ⟨b3,hb3⟩: ∃ b3,b3=W.heap.size+1+1:=⟨_,rfl⟩
 obtain ⟨b2,hb2⟩: ∃ b2,b2=W.heap.size+1:=⟨_,rfl⟩
 obtain ⟨b1,hb1⟩: ∃ b1,b1=W.heap.size:=⟨_,rfl⟩
 have G1:Hid (Below W.heap.size W V3/\Blk V3 b1 [.int .i64 5,.int .i64 k1,.int .i64 k2,.bool k3,.bool k4,.bool k5,.int .u64 ad,.int .i64 sz,.int .u64 x,.int .i64 k6,.int .i64 k7,.int .i64 k8,.int .i64 k9] 59/\Blk V3 b2 [.int .i64 0,.int .u64 0,.int .i64 0,.int .u64 0,.int .i64 0,.bool false] 39/\Blk V3 b3 [.bool true,.bool true,.bool false] 115):=by rw [hb3,hb2,hb1];exact G0.out
 have NB:Hid (W.heap.size<=b1/\W.heap.size<=b2/\b1≠b2):=⟨by omega,by omega,by omega⟩
 rw [<- hb3,<- hb2,<- hb1]
 clear hb1 hb2 hb3 G0
 have HA:Hid (ad / 4096=p/\0<=ad/\ad<140737488355328/\0<=sz/\sz<=8/\ad % 4096+sz<=4096):=⟨hp,a0,a1,s0,s8,am⟩
 have c15:V3.cell? ⟨M.pb,15,none⟩=some (.slice P.rp P.L.length P.rc):=(HM.out.pro.below G1.out.1).cell 15
 clear hp a0 a1 s0 s8 am
 go_wp2_with fail
 refine Calls.mono (FC.out _ G1.out.1) ?_
 rintro e w4 ⟨rfl,hb4⟩
 have G4:Hid (Below W.heap.size W (w4.alloc (.cells #[.int .i64 g1,.int .i64 g2,.bool true,.bool true,.bool gx,.int .i64 gk] 117))/\Blk (w4.alloc (.cells #[.int .i64 g1,.int .i64 g2,.bool true,.bool true,.bool gx,.int .i64 gk] 117)) b1 [.int .i64 5,.int .i64 k1,.int .i64 k2,.bool k3,.bool k4,.bool k5,.int .u64 ad,.int .i64 sz,.int .u64 x,.int .i64 k6,.int .i64 k7,.int .i64 k8,.int .i64 k9] 59/\Blk (w4.alloc (.cells #[.int .i64 g1,.int .i64 g2,.bool true,.bool true,.bool gx,.int .i64 gk] 117)) b2 [.int .i64 0,.int .u64 0,.int .i64 0,.int .u64 0,.int .i64 0,.bool false] 39/\Blk (w4.alloc (.cells #[.int .i64 g1,.int .i64 g2,.bool true,.bool true,.bool gx,.int .i64 gk] 117)) b3 [.bool true,.bool true,.bool false] 115/\Blk (w4.alloc (.cells #[.int .i64 g1,.int .i64 g2,.bool true,.bool true,.bool gx,.int .i64 gk] 117)) w4.heap.size [.int .i64 g1,.int .i64 g2,.bool true,.bool true,.bool gx,.int .i64 gk] 117):=by
  have b5:Below w4.heap.size w4 (w4.alloc (.cells #[.int .i64 g1,.int .i64 g2,.bool true,.bool true,.bool gx,.int .i64 gk] 117)):=Go.Joins.below_alloc1 _ _
  have b6:=below_then hb4 b5
  exact ⟨below_then G1.out.1 b6,G1.out.2.1.below b6,G1.out.2.2.1.below b6,G1.out.2.2.2.below b6,Blk.made _ _ _⟩
 clear hb4 FC c15 G1
 go_upto_region 4 with fail
 generalize (w4.alloc (.cells #[.int .i64 g1,.int .i64 g2,.bool true,.bool true,.bool gx,.int .i64 gk] 117))=V5 at G4 |-
 obtain ⟨q,hq⟩: ∃ q,q=w4.heap.size:=⟨_,rfl⟩
 have G5:Hid (Below W.heap.size W V5/\Blk V5 b1 [.int .i64 5,.int .i64 k1,.int .i64 k2,.bool k3,.bool k4,.bool k5,.int .u64 ad,.int .i64 sz,.int .u64 x,.int .i64 k6,.int .i64 k7,.int .i64 k8,.int .i64 k9] 59/\Blk V5 b2 [.int .i64 0,.int .u64 0,.int .i64 0,.int .u64 0,.int .i64 0,.bool false] 39/\Blk V5 b3 [.bool true,.bool true,.bool false] 115/\Blk V5 q [.int .i64 g1,.int .i64 g2,.bool true,.bool true,.bool gx,.int .i64 gk] 117):=by rw [hq];exact G4.out
 rw [<- hq]
 clear hq G4
 have x2:V5.cell? ⟨q,2,none⟩=some (.bool true):=G5.out.2.2.2.2.cell 2
 have x3:V5.cell? ⟨q,3,none⟩=some (.bool true):=G5.out.2.2.2.2.cell 3
 have x4:V5.cell? ⟨q,4,none⟩=some (.bool gx):=G5.out.2.2.2.2.cell 4
 have y0:V5.cell? ⟨b3,0,none⟩=some (.bool true):=G5.out.2.2.2.1.cell 0
 have y1:V5.cell? ⟨b3,1,none⟩=some (.bool true):=G5.out.2.2.2.1.cell 1
 have y2:V5.cell? ⟨b3,2,none⟩=some (.bool false):=G5.out.2.2.2.1.cell 2
 go_wp2_with fail
 refine Calls.mono (YC.out _) ?_
 rintro e V ⟨rfl,hb6⟩
 have G6:Hid (Below W.heap.size W V/\Blk V b1 [.int .i64 5,.int .i64 k1,.int .i64 k2,.bool k3,.bool k4,.bool k5,.int .u64 ad,.int .i64 sz,.int .u64 x,.int .i64 k6,.int .i64 k7,.int .i64 k8,.int .i64 k9] 59/\Blk V b2 [.int .i64 0,.int .u64 0,.int .i64 0,.int .u64 0,.int .i64 0,.bool false] 39):=⟨below_then G5.out.1 hb6,G5.out.2.1.below hb6,G5.out.2.2.1.below hb6⟩
 clear hb6 YC x2 x3 x4 y0 y1 y2 G5
 have M6:Hid (Fm O n V M Q T root P):=HM.out.below G6.out.1
 have c16:V.cell? ⟨M.pb,16,none⟩=some (.map (some M.lb)):=M6.out.pro.cell 16
 have HPW:Hid ((Lit.int .i64 p).wf=true):=wf64 (by have:=HA.out;omega) (by have:=HA.out;omega)
 have HF:Hid (P.F p=some c):=hF
 have lk:(Instr.lookup 74 (.map (some M.lb)) (.int .i64 p) false).run Tryz.prog V=.ok (.pointer (some ⟨c,0,none⟩)) V:=by
  have q:=M6.out.led.look HPW.out
  rw [hF] at q;exact q
 have M7:Hid (Fm O n V M Q T root P/\Below W.heap.size W V):=⟨M6.out,G6.out.1⟩
 have cc:=HM.out.con p c hF
 have lc:c<W.heap.size:=HM.out.lt c (by rw [cc.2.2];omega)
 have HBB:Hid (∀ i,0<=P.B c i/\P.B c i<256):=cc.2.1
 have G7:Hid (Blk V b1 [.int .i64 5,.int .i64 k1,.int .i64 k2,.bool k3,.bool k4,.bool k5,.int .u64 ad,.int .i64 sz,.int .u64 x,.int .i64 k6,.int .i64 k7,.int .i64 k8,.int .i64 k9] 59/\Blk V b2 [.int .i64 0,.int .u64 0,.int .i64 0,.int .u64 0,.int .i64 0,.bool false] 39/\c<W.heap.size/\b1≠c/\b2≠c):=by
  have nb:=NB.out
  exact ⟨G6.out.2.1,G6.out.2.2,lc,by omega,by omega⟩
 have PG:Hid (Page V c (P.B c)/\c<V.heap.size):=⟨(M6.out.con p c hF).1,Nat.lt_of_lt_of_le lc G6.out.1.size⟩
 have BS:Hid (Blk V M.pb [.int .i64 0,.int .i64 P.k,.int .u64 0,.int .u64 0,.int .u64 0,.int .u64 0,.int .i64 0,.int .u64 0,.bool false,.int .u64 0,.int .i64 0,.int .u64 0,.int .u64 0,.int .u64 0,.int .u64 0,.slice P.rp P.L.length P.rc,.map (some M.lb),.map (some M.wb)] 77/\Blk V b1 [.int .i64 5,.int .i64 k1,.int .i64 k2,.bool k3,.bool k4,.bool k5,.int .u64 ad,.int .i64 sz,.int .u64 x,.int .i64 k6,.int .i64 k7,.int .i64 k8,.int .i64 k9] 59/\MapL V M.lb n P.F):=⟨M6.out.pro,G6.out.2.1,M6.out.led⟩
 have LKC:Hid (∀ w:World,MapL w M.lb n P.F->(Instr.lookup 74 (.map (some M.lb)) (.int .i64 p) false).run Tryz.prog w=.ok (.pointer (some ⟨c,0,none⟩)) w):=fun w hw=>by
  have q:=hw.look HPW.out
  rw [HF.out] at q;exact q
 clear hF cc lc M6
 have HX:Hid (0<=x/\x<18446744073709551616):=⟨x0,x1⟩
 clear x0 x1
 have B2:Hid (Blk V b2 [.int .i64 0,.int .u64 0,.int .i64 0,.int .u64 0,.int .i64 0,.bool false] 39):=G7.out.2.1
 have NE:Hid (M.pb≠c/\b1≠c/\M.lb≠c/\b2≠c/\M.pb≠b2/\b1≠b2/\M.lb≠b2):=by
  obtain ⟨_,_,h3,h4,h5⟩:=G7.out
  have nb:=NB.out
  have l5:=HM.out.lt M.pb (by rw [HM.out.o5];omega)
  have l7:=HM.out.lt M.lb (by rw [HM.out.o7];omega)
  exact ⟨fun e=>by have:=(HM.out.con p c HF.out).2.2;rw [<- e,HM.out.o5] at this;omega,h4,fun e=>by have:=(HM.out.con p c HF.out).2.2;rw [<- e,HM.out.o7] at this;omega,h5,by omega,nb.2.2,by omega⟩
 have MC:Hid (∀ w:World,Page w c (P.B c)->c<w.heap.size->_):=fun w hw hl=>move_store c (P.B c) k1 k2 k3 k4 k5 ad sz x k6 k7 k8 k9 w hw hl HA.out.2.1 HA.out.2.2.1 HA.out.2.2.2.1 HA.out.2.2.2.2.1 HA.out.2.2.2.2.2 HX.out.1 HX.out.2
 go_upto_region 10 with fail
 refine wp_region_noPanic ?_
 refine wp_region_held_drew (S:=fun cw=>Blk cw M.pb [.int .i64 0,.int .i64 P.k,.int .u64 0,.int .u64 0,.int .u64 0,.int .u64 0,.int .i64 0,.int .u64 0,.bool false,.int .u64 0,.int .i64 0,.int .u64 0,.int .u64 0,.int .u64 0,.int .u64 0,.slice P.rp P.L.length P.rc,.map (some M.lb),.map (some M.wb)] 77/\Blk cw b1 [.int .i64 5,.int .i64 k1,.int .i64 k2,.bool k3,.bool k4,.bool k5,.int .u64 ad,.int .i64 sz,.int .u64 x,.int .i64 k6,.int .i64 k7,.int .i64 k8,.int .i64 k9] 59/\MapL cw M.lb n P.F) (by kernel_rfl) ?_ (fun hHeld=> ?_)
 . exact BS.out
 have KU:Hid (Below V.heap.size V V.drew):=below_drew (Below.refl _ _)
 change Hid (Page V.drew c (P.B c)/\c<V.drew.heap.size) at PG
 change Hid (Blk V.drew b2 [.int .i64 0,.int .u64 0,.int .i64 0,.int .u64 0,.int .i64 0,.bool false] 39) at B2
 clear BS
 generalize V.drew=U at hHeld KU PG B2 |-
 refine tk 0 69 ?_ rfl (Or.inl ⟨by rfl,?_⟩) ?_
 rotate_left
 . intro w hSw;(try dsimp only at hSw);go_simp;(try with_reducible rfl)
 try simp only [Act.put,z1,z2,z3]
 refine tk 1 70 ?_ rfl (Or.inl ⟨by rfl,?_⟩) ?_
 rotate_left
 . intro w hSw;(try dsimp only at hSw);go_simp;(try with_reducible rfl)
 try simp only [Act.put,z1,z2,z3]
 refine tk 2 71 ?_ rfl (Or.inl ⟨by rfl,?_⟩) ?_
 rotate_left
 . intro w hSw;(try dsimp only at hSw);go_simp;(try with_reducible rfl)
 try simp only [Act.put,z1,z2,z3]
 refine tk 3 72 ((.map (some M.lb))) rfl (Or.inl ⟨by rfl,?_⟩) ?_
 . intro w hSw;(try dsimp only at hSw);have r:=Blk.cell hSw.1 16;(try go_simp);(try simp [*])
 try simp only [Act.put,z1,z2,z3]
 refine tk 4 73 ?_ rfl (Or.inl ⟨by rfl,?_⟩) ?_
 rotate_left
 . intro w hSw;(try dsimp only at hSw);go_simp;(try with_reducible rfl)
 try simp only [Act.put,z1,z2,z3]
 refine tk 5 74 ((.pointer (some ⟨c,0,none⟩))) rfl (Or.inl ⟨by rfl,?_⟩) ?_
 . intro w hSw;(try dsimp only at hSw);have r:=LKC.out w hSw.2.2;(try go_simp);(try simp [*])
 try simp only [Act.put,z1,z2,z3]
 refine tk 6 75 (.agg #[.int .i64 5,.int .i64 k1,.int .i64 k2,.bool k3,.bool k4,.bool k5,.int .u64 ad,.int .i64 sz,.int .u64 x,.int .i64 k6,.int .i64 k7,.int .i64 k8,.int .i64 k9]) rfl (Or.inl ⟨by rfl,?_⟩) ?_
 . intro w hSw;(try dsimp only at hSw);have r0:=Blk.cell hSw.2.1 0;have r1:=Blk.cell hSw.2.1 1;have r2:=Blk.cell hSw.2.1 2;have r3:=Blk.cell hSw.2.1 3;have r4:=Blk.cell hSw.2.1 4;have r5:=Blk.cell hSw.2.1 5;have r6:=Blk.cell hSw.2.1 6;have r7:=Blk.cell hSw.2.1 7;have r8:=Blk.cell hSw.2.1 8;have r9:=Blk.cell hSw.2.1 9;have r10:=Blk.cell hSw.2.1 10;have r11:=Blk.cell hSw.2.1 11;have r12:=Blk.cell hSw.2.1 12;(try go_simp);(try simp [*])
 try simp only [Act.put,z1,z2,z3]
 refine wpAnyH_ready (rs:=[7]) (by kernel_rfl) (by simp) ?_
 refine AllReadyH.cons (o:=⟨some 76,_,_,_,_,none⟩) rfl (fun K hK=> ?_) AllReadyH.nil
 go_simp
 go_wp2_with (go_at_call 51;refine Calls.mono (MC.out _ PG.out.1 PG.out.2) ?_;rintro e u8 ⟨rfl,hp8,hg8⟩)
 have KU8:Hid (Page u8 c (cset (P.B c) (ad % 4096).toNat sz.toNat x)/\V.grownBy u8 (some c)):=⟨hp8,grown_trans (grown_of_below KU.out _) hg8⟩
 have ne:=NE.out
 have B28:Hid (Blk u8 b2 [.int .i64 0,.int .u64 0,.int .i64 0,.int .u64 0,.int .i64 0,.bool false] 39):=(hg8.block _ B2.out.lt (fun e=>ne.2.2.2.1 (Option.some.inj e))).trans B2.out
 have S8:Hid (Blk u8 M.pb [.int .i64 0,.int .i64 P.k,.int .u64 0,.int .u64 0,.int .u64 0,.int .u64 0,.int .i64 0,.int .u64 0,.bool false,.int .u64 0,.int .i64 0,.int .u64 0,.int .u64 0,.int .u64 0,.int .u64 0,.slice P.rp P.L.length P.rc,.map (some M.lb),.map (some M.wb)] 77/\Blk u8 b1 [.int .i64 5,.int .i64 k1,.int .i64 k2,.bool k3,.bool k4,.bool k5,.int .u64 ad,.int .i64 sz,.int .u64 x,.int .i64 k6,.int .i64 k7,.int .i64 k8,.int .i64 k9] 59/\MapL u8 M.lb n P.F):=⟨(hg8.block _ hHeld.1.lt (fun e=>ne.1 (Option.some.inj e))).trans hHeld.1,(hg8.block _ hHeld.2.1.lt (fun e=>ne.2.1 (Option.some.inj e))).trans hHeld.2.1,hHeld.2.2.block (hg8.block _ hHeld.2.2.lt (fun e=>ne.2.2.1 (Option.some.inj e)))⟩
 refine hK.out _ _ S8.out (fun hHeld2=> ?_)
 clear hK K hHeld hp8 hg8 ne S8 KU
 have hHeld:=hHeld2
 clear hHeld2
 try simp only [Act.put,z1,z2,z3]
 refine wpAnyH_ready (rs:=[8]) (by kernel_rfl) (by simp) ?_
 refine AllReadyH.cons (o:=⟨none,.store 39 (.tmp 6) (.tmp 76),_,_,_,none⟩) rfl (fun K hK=> ?_) AllReadyH.nil
 refine wanted_mp rfl ?_
 have th:u8.there b2 0 6:=B28.out.there
 refine wp_store_mid _ _ _ rfl b2 0 #[.int .i64 0,.int .u64 0,.int .i64 0,.int .u64 0,.int .i64 0,.bool false] rfl rfl th (by kernel_rfl) (by simp [Value.oneCell']) ?_
 (try simp only [List.toList_toArray])
 have gk:=grown_setCells b2 [.int .i64 0,.int .u64 0,.int .i64 0,.int .u64 0,.int .i64 0,.bool false] 0 u8
 have ne:=NE.out
 have F9:Hid (Blk (u8.setCells b2 0 [.int .i64 0,.int .u64 0,.int .i64 0,.int .u64 0,.int .i64 0,.bool false]) b2 [.int .i64 0,.int .u64 0,.int .i64 0,.int .u64 0,.int .i64 0,.bool false] 39):=B28.out.put rfl
 have S9:Hid (Blk (u8.setCells b2 0 [.int .i64 0,.int .u64 0,.int .i64 0,.int .u64 0,.int .i64 0,.bool false]) M.pb [.int .i64 0,.int .i64 P.k,.int .u64 0,.int .u64 0,.int .u64 0,.int .u64 0,.int .i64 0,.int .u64 0,.bool false,.int .u64 0,.int .i64 0,.int .u64 0,.int .u64 0,.int .u64 0,.int .u64 0,.slice P.rp P.L.length P.rc,.map (some M.lb),.map (some M.wb)] 77/\Blk (u8.setCells b2 0 [.int .i64 0,.int .u64 0,.int .i64 0,.int .u64 0,.int .i64 0,.bool false]) b1 [.int .i64 5,.int .i64 k1,.int .i64 k2,.bool k3,.bool k4,.bool k5,.int .u64 ad,.int .i64 sz,.int .u64 x,.int .i64 k6,.int .i64 k7,.int .i64 k8,.int .i64 k9] 59/\MapL (u8.setCells b2 0 [.int .i64 0,.int .u64 0,.int .i64 0,.int .u64 0,.int .i64 0,.bool false]) M.lb n P.F):=⟨(gk.block _ hHeld.1.lt (fun e=>ne.2.2.2.2.1 (Option.some.inj e))).trans hHeld.1,(gk.block _ hHeld.2.1.lt (fun e=>ne.2.2.2.2.2.1 (Option.some.inj e))).trans hHeld.2.1,hHeld.2.2.block (gk.block _ hHeld.2.2.lt (fun e=>ne.2.2.2.2.2.2 (Option.some.inj e)))⟩
 have HE:Hid (Fm O n (u8.setCells b2 0 [.int .i64 0,.int .u64 0,.int .i64 0,.int .u64 0,.int .i64 0,.bool false]) M Q T root { P with B:=(fun y9=>if y9=c then (cset (P.B c) (ad % 4096).toNat sz.toNat x) else P.B y9) }/\Ko O W (u8.setCells b2 0 [.int .i64 0,.int .u64 0,.int .i64 0,.int .u64 0,.int .i64 0,.bool false])):=by
  obtain ⟨m1,m2⟩:=M7.out
  obtain ⟨k1,k2⟩:=m1.poke (p:=p) (c:=c) HF.out KU8.out.2 KU8.out.1 (cset_bd HBB.out _ _ _)
  have ob:O b2=0:=Classical.byContradiction fun hh=>by have:=HM.out.lt b2 hh;have:=NB.out;omega
  refine ⟨k1.keep gk.size (fun j hj=>gk.block j (k1.lt j hj) (fun e=>hj (by rw [Option.some.inj e];exact ob))),?_⟩
  refine (Ko.of_below m2).trans ((k2.sub (fun j hj=>⟨hj.1,Nat.lt_of_lt_of_le hj.2 m2.size⟩)).trans ⟨gk.os,gk.tape,gk.output,gk.size,fun j hj=>gk.block j (Nat.lt_of_lt_of_le hj.2 (Nat.le_trans m2.size KU8.out.2.size)) (fun e=> ?_)⟩)
  have:=Option.some.inj e;have:=NB.out;omega
 clear gk ne
 generalize u8.setCells b2 0 [.int .i64 0,.int .u64 0,.int .i64 0,.int .u64 0,.int .i64 0,.bool false]=u9 at *
 refine hK.out _ _ S9.out (fun hHeld2=> ?_)
 clear hK K hHeld th S9 B28 KU8
 have hHeld:=hHeld2
 clear hHeld2
 try simp only [Act.put,z1,z2,z3]
 clear hHeld
 refine wpAnyH_done (by kernel_rfl) ?_ _
 refine NoPanic.normal ?_
 have LV:(loadVar 39 ⟨b2,0,none⟩).run Tryz.prog u9=.ok (.agg #[.int .i64 0,.int .u64 0,.int .i64 0,.int .u64 0,.int .i64 0,.bool false]) u9:=run_loadVar_mid (P:=Tryz.prog) _ b2 0 39 [.int .i64 0,.int .u64 0,.int .i64 0,.int .u64 0,.int .i64 0,.bool false] _ F9.out.range Tryz.underlying39 rfl (by kernel_rfl)
 go_wp2_with fail
 refine bodyPost_ret (v:=.agg #[.int .i64 0,.int .u64 0,.int .i64 0,.int .u64 0,.int .i64 0,.bool false]) (results_one Tryz.results26 _ _ _ ⟨b2,0,none⟩ _ rfl LV) rfl ?_
 exact ⟨rfl,HE.out⟩
set_option maxHeartbeats 4000000 in
theorem access_load {O:Nat->Nat} {n:Nat} {W:World} {M:Fb} {Q:Ca.Qu} {T:Nat->Qo.Nd} {root:Int} {P:Fp} (h:Fm O n W M Q T root P) (k1 k2:Int) (k3 k4 k5:Bool) (ad sz x k6 k7 k8 k9:Int) (p:Int) (hp:ad / 4096=p) (a0:0<=ad) (a1:ad<140737488355328) (s0:0<=sz) (s8:sz<=8) (am:ad % 4096+sz<=4096) (g1 g2 gk:Int) (gw gx:Bool) (hz:Re.findR P.L p=(⟨g1,g2,gw,true,gx,gk⟩,true)) (c:Nat) (hF:P.F p=some c) :
 Calls Tryz.prog 26 #[pp M.mb,pp M.pb,.agg #[.int .i64 4,.int .i64 k1,.int .i64 k2,.bool k3,.bool k4,.bool k5,.int .u64 ad,.int .i64 sz,.int .u64 x,.int .i64 k6,.int .i64 k7,.int .i64 k8,.int .i64 k9]] W fun e w'=>e=.returned (.agg #[.int .i64 0,.int .u64 (le (P.B c) (ad % 4096).toNat sz.toNat),.int .i64 0,.int .u64 0,.int .i64 0,.bool false])/\Below W.heap.size W w':=by
 obtain ⟨X,hX⟩: ∃ X:Int,X=le (P.B c) (ad % 4096).toNat sz.toNat:=⟨_,rfl⟩
 rw [<- hX]
 have HXX:Hid (X=le (P.B c) (ad % 4096).toNat sz.toNat):=hX
 clear hX
 have FC:Hid (∀ w:World,Below W.heap.size W w->Calls Tryz.prog 46 #[.slice P.rp P.L.length P.rc,.int .i64 p] w fun e w'=>e=.returned (.tuple #[.agg #[.int .i64 g1,.int .i64 g2,.bool gw,.bool true,.bool gx,.int .i64 gk],.bool true])/\Below w.heap.size w w'):=fun w hb=>by
  have q:=Re.find_any 0 P.rp P.rc P.L (by have:=h.few;omega) p w (h.lis.below hb)
  rw [hz] at q;exact q
 have YC:Hid (∀ w:World,Calls Tryz.prog 47 #[.agg #[.bool gw,.bool true,.bool gx],.agg #[.bool false,.bool true,.bool false]] w fun e w'=>e=.returned (.bool true)/\Below w.heap.size w w'):=fun w=>by
  have q:=may_any gw true gx false true false w
  rw [show mayV gw true gx false true false=true by cases gw <;> rfl] at q;exact q
 have s1:(W.alloc (.cells #[.int .i64 4,.int .i64 k1,.int .i64 k2,.bool k3,.bool k4,.bool k5,.int .u64 ad,.int .i64 sz,.int .u64 x,.int .i64 k6,.int .i64 k7,.int .i64 k8,.int .i64 k9] 59)).heap.size=W.heap.size+1:=World.size_alloc _ _
 have s2:((W.alloc (.cells #[.int .i64 4,.int .i64 k1,.int .i64 k2,.bool k3,.bool k4,.bool k5,.int .u64 ad,.int .i64 sz,.int .u64 x,.int .i64 k6,.int .i64 k7,.int .i64 k8,.int .i64 k9] 59)).alloc (.cells #[.int .i64 0,.int .u64 0,.int .i64 0,.int .u64 0,.int .i64 0,.bool false] 39)).heap.size=W.heap.size+1+1:=by rw [World.size_alloc,s1]
 have G0:Hid (Below W.heap.size W (((W.alloc (.cells #[.int .i64 4,.int .i64 k1,.int .i64 k2,.bool k3,.bool k4,.bool k5,.int .u64 ad,.int .i64 sz,.int .u64 x,.int .i64 k6,.int .i64 k7,.int .i64 k8,.int .i64 k9] 59)).alloc (.cells #[.int .i64 0,.int .u64 0,.int .i64 0,.int .u64 0,.int .i64 0,.bool false] 39)).alloc (.cells #[.bool false,.bool true,.bool false] 115))/\Blk (((W.alloc (.cells #[.int .i64 4,.int .i64 k1,.int .i64 k2,.bool k3,.bool k4,.bool k5,.int .u64 ad,.int .i64 sz,.int .u64 x,.int .i64 k6,.int .i64 k7,.int .i64 k8,.int .i64 k9] 59)).alloc (.cells #[.int .i64 0,.int .u64 0,.int .i64 0,.int .u64 0,.int .i64 0,.bool false] 39)).alloc (.cells #[.bool false,.bool true,.bool false] 115)) W.heap.size [.int .i64 4,.int .i64 k1,.int .i64 k2,.bool k3,.bool k4,.bool k5,.int .u64 ad,.int .i64 sz,.int .u64 x,.int .i64 k6,.int .i64 k7,.int .i64 k8,.int .i64 k9] 59/\Blk (((W.alloc (.cells #[.int .i64 4,.int .i64 k1,.int .i64 k2,.bool k3,.bool k4,.bool k5,.int .u64 ad,.int .i64 sz,.int .u64 x,.int .i64 k6,.int .i64 k7,.int .i64 k8,.int .i64 k9] 59)).alloc (.cells #[.int .i64 0,.int .u64 0,.int .i64 0,.int .u64 0,.int .i64 0,.bool false] 39)).alloc (.cells #[.bool false,.bool true,.bool false] 115)) (W.heap.size+1) [.int .i64 0,.int .u64 0,.int .i64 0,.int .u64 0,.int .i64 0,.bool false] 39/\Blk (((W.alloc (.cells #[.int .i64 4,.int .i64 k1,.int .i64 k2,.bool k3,.bool k4,.bool k5,.int .u64 ad,.int .i64 sz,.int .u64 x,.int .i64 k6,.int .i64 k7,.int .i64 k8,.int .i64 k9] 59)).alloc (.cells #[.int .i64 0,.int .u64 0,.int .i64 0,.int .u64 0,.int .i64 0,.bool false] 39)).alloc (.cells #[.bool false,.bool true,.bool false] 115)) (W.heap.size+1+1) [.bool false,.bool true,.bool false] 115):=by
  have b1:Below (W.alloc (.cells #[.int .i64 4,.int .i64 k1,.int .i64 k2,.bool k3,.bool k4,.bool k5,.int .u64 ad,.int .i64 sz,.int .u64 x,.int .i64 k6,.int .i64 k7,.int .i64 k8,.int .i64 k9] 59)).heap.size (W.alloc (.cells #[.int .i64 4,.int .i64 k1,.int .i64 k2,.bool k3,.bool k4,.bool k5,.int .u64 ad,.int .i64 sz,.int .u64 x,.int .i64 k6,.int .i64 k7,.int .i64 k8,.int .i64 k9] 59)) ((W.alloc (.cells #[.int .i64 4,.int .i64 k1,.int .i64 k2,.bool k3,.bool k4,.bool k5,.int .u64 ad,.int .i64 sz,.int .u64 x,.int .i64 k6,.int .i64 k7,.int .i64 k8,.int .i64 k9] 59)).alloc (.cells #[.int .i64 0,.int .u64 0,.int .i64 0,.int .u64 0,.int .i64 0,.bool false] 39)):=Go.Joins.below_alloc1 _ _
  have b2:Below ((W.alloc (.cells #[.int .i64 4,.int .i64 k1,.int .i64 k2,.bool k3,.bool k4,.bool k5,.int .u64 ad,.int .i64 sz,.int .u64 x,.int .i64 k6,.int .i64 k7,.int .i64 k8,.int .i64 k9] 59)).alloc (.cells #[.int .i64 0,.int .u64 0,.int .i64 0,.int .u64 0,.int .i64 0,.bool false] 39)).heap.size ((W.alloc (.cells #[.int .i64 4,.int .i64 k1,.int .i64 k2,.bool k3,.bool k4,.bool k5,.int .u64 ad,.int .i64 sz,.int .u64 x,.int .i64 k6,.int .i64 k7,.int .i64 k8,.int .i64 k9] 59)).alloc (.cells #[.int .i64 0,.int .u64 0,.int .i64 0,.int .u64 0,.int .i64 0,.bool false] 39)) (((W.alloc (.cells #[.int .i64 4,.int .i64 k1,.int .i64 k2,.bool k3,.bool k4,.bool k5,.int .u64 ad,.int .i64 sz,.int .u64 x,.int .i64 k6,.int .i64 k7,.int .i64 k8,.int .i64 k9] 59)).alloc (.cells #[.int .i64 0,.int .u64 0,.int .i64 0,.int .u64 0,.int .i64 0,.bool false] 39)).alloc (.cells #[.bool false,.bool true,.bool false] 115)):=Go.Joins.below_alloc1 _ _
  refine ⟨below_then (below_then (Go.Joins.below_alloc1 _ _) b1) b2,((Blk.made _ _ _).below b1).below b2,?_,?_⟩
  . rw [<- s1];exact (Blk.made _ _ _).below b2
  . rw [<- s2];exact Blk.made _ _ _
 have HM:Hid (Fm O n W M Q T root P):=h
 clear h s1 s2 hz
 go_enter Tryz.func26,Tryz.ntmps26
 go_upto_region 3 with fail
 generalize (((W.alloc (.cells #[.int .i64 4,.int .i64 k1,.int .i64 k2,.bool k3,.bool k4,.bool k5,.int .u64 ad,.int .i64 sz,.int .u64 x,.int .i64 k6,.int .i64 k7,.int .i64 k8,.int .i64 k9] 59)).alloc (.cells #[.int .i64 0,.int .u64 0,.int .i64 0,.int .u64 0,.int .i64 0,.bool false] 39)).alloc (.cells #[.bool false,.bool true,.bool false] 115))=V3 at G0 |-
 obtain ⟨b3,hb3⟩: ∃ b3,b3=W.heap.size+1+1:=⟨_,rfl⟩
 obtain ⟨b2,hb2⟩: ∃ b2,b2=W.heap.size+1:=⟨_,rfl⟩
 obtain ⟨b1,hb1⟩: ∃ b1,b1=W.heap.size:=⟨_,rfl⟩
 have G1:Hid (Below W.heap.size W V3/\Blk V3 b1 [.int .i64 4,.int .i64 k1,.int .i64 k2,.bool k3,.bool k4,.bool k5,.int .u64 ad,.int .i64 sz,.int .u64 x,.int .i64 k6,.int .i64 k7,.int .i64 k8,.int .i64 k9] 59/\Blk V3 b2 [.int .i64 0,.int .u64 0,.int .i64 0,.int .u64 0,.int .i64 0,.bool false] 39/\Blk V3 b3 [.bool false,.bool true,.bool false] 115):=by rw [hb3,hb2,hb1];exact G0.out
 have NB:Hid (W.heap.size<=b1/\W.heap.size<=b2/\b1≠b2):=⟨by omega,by omega,by omega⟩
 rw [<- hb3,<- hb2,<- hb1]
 clear hb1 hb2 hb3 G0
 have HA:Hid (ad / 4096=p/\0<=ad/\ad<140737488355328/\0<=sz/\sz<=8/\ad % 4096+sz<=4096):=⟨hp,a0,a1,s0,s8,am⟩
 have c15:V3.cell? ⟨M.pb,15,none⟩=some (.slice P.rp P.L.length P.rc):=(HM.out.pro.below G1.out.1).cell 15
 clear hp a0 a1 s0 s8 am
 go_wp2_with fail
 refine Calls.mono (FC.out _ G1.out.1) ?_
 rintro e w4 ⟨rfl,hb4⟩
 have G4:Hid (Below W.heap.size W (w4.alloc (.cells #[.int .i64 g1,.int .i64 g2,.bool gw,.bool true,.bool gx,.int .i64 gk] 117))/\Blk (w4.alloc (.cells #[.int .i64 g1,.int .i64 g2,.bool gw,.bool true,.bool gx,.int .i64 gk] 117)) b1 [.int .i64 4,.int .i64 k1,.int .i64 k2,.bool k3,.bool k4,.bool k5,.int .u64 ad,.int .i64 sz,.int .u64 x,.int .i64 k6,.int .i64 k7,.int .i64 k8,.int .i64 k9] 59/\Blk (w4.alloc (.cells #[.int .i64 g1,.int .i64 g2,.bool gw,.bool true,.bool gx,.int .i64 gk] 117)) b2 [.int .i64 0,.int .u64 0,.int .i64 0,.int .u64 0,.int .i64 0,.bool false] 39/\Blk (w4.alloc (.cells #[.int .i64 g1,.int .i64 g2,.bool gw,.bool true,.bool gx,.int .i64 gk] 117)) b3 [.bool false,.bool true,.bool false] 115/\Blk (w4.alloc (.cells #[.int .i64 g1,.int .i64 g2,.bool gw,.bool true,.bool gx,.int .i64 gk] 117)) w4.heap.size [.int .i64 g1,.int .i64 g2,.bool gw,.bool true,.bool gx,.int .i64 gk] 117):=by
  have b5:Below w4.heap.size w4 (w4.alloc (.cells #[.int .i64 g1,.int .i64 g2,.bool gw,.bool true,.bool gx,.int .i64 gk] 117)):=Go.Joins.below_alloc1 _ _
  have b6:=below_then hb4 b5
  exact ⟨below_then G1.out.1 b6,G1.out.2.1.below b6,G1.out.2.2.1.below b6,G1.out.2.2.2.below b6,Blk.made _ _ _⟩
 clear hb4 FC c15 G1
 go_upto_region 4 with fail
 generalize (w4.alloc (.cells #[.int .i64 g1,.int .i64 g2,.bool gw,.bool true,.bool gx,.int .i64 gk] 117))=V5 at G4 |-
 obtain ⟨q,hq⟩: ∃ q,q=w4.heap.size:=⟨_,rfl⟩
 have G5:Hid (Below W.heap.size W V5/\Blk V5 b1 [.int .i64 4,.int .i64 k1,.int .i64 k2,.bool k3,.bool k4,.bool k5,.int .u64 ad,.int .i64 sz,.int .u64 x,.int .i64 k6,.int .i64 k7,.int .i64 k8,.int .i64 k9] 59/\Blk V5 b2 [.int .i64 0,.int .u64 0,.int .i64 0,.int .u64 0,.int .i64 0,.bool false] 39/\Blk V5 b3 [.bool false,.bool true,.bool false] 115/\Blk V5 q [.int .i64 g1,.int .i64 g2,.bool gw,.bool true,.bool gx,.int .i64 gk] 117):=by rw [hq];exact G4.out
 rw [<- hq]
 clear hq G4
 have x2:V5.cell? ⟨q,2,none⟩=some (.bool gw):=G5.out.2.2.2.2.cell 2
 have x3:V5.cell? ⟨q,3,none⟩=some (.bool true):=G5.out.2.2.2.2.cell 3
 have x4:V5.cell? ⟨q,4,none⟩=some (.bool gx):=G5.out.2.2.2.2.cell 4
 have y0:V5.cell? ⟨b3,0,none⟩=some (.bool false):=G5.out.2.2.2.1.cell 0
 have y1:V5.cell? ⟨b3,1,none⟩=some (.bool true):=G5.out.2.2.2.1.cell 1
 have y2:V5.cell? ⟨b3,2,none⟩=some (.bool false):=G5.out.2.2.2.1.cell 2
 go_wp2_with fail
 refine Calls.mono (YC.out _) ?_
 rintro e V ⟨rfl,hb6⟩
 have G6:Hid (Below W.heap.size W V/\Blk V b1 [.int .i64 4,.int .i64 k1,.int .i64 k2,.bool k3,.bool k4,.bool k5,.int .u64 ad,.int .i64 sz,.int .u64 x,.int .i64 k6,.int .i64 k7,.int .i64 k8,.int .i64 k9] 59/\Blk V b2 [.int .i64 0,.int .u64 0,.int .i64 0,.int .u64 0,.int .i64 0,.bool false] 39):=⟨below_then G5.out.1 hb6,G5.out.2.1.below hb6,G5.out.2.2.1.below hb6⟩
 clear hb6 YC x2 x3 x4 y0 y1 y2 G5
 have M6:Hid (Fm O n V M Q T root P):=HM.out.below G6.out.1
 have c16:V.cell? ⟨M.pb,16,none⟩=some (.map (some M.lb)):=M6.out.pro.cell 16
 have HPW:Hid ((Lit.int .i64 p).wf=true):=wf64 (by have:=HA.out;omega) (by have:=HA.out;omega)
 have HF:Hid (P.F p=some c):=hF
 have lk:(Instr.lookup 74 (.map (some M.lb)) (.int .i64 p) false).run Tryz.prog V=.ok (.pointer (some ⟨c,0,none⟩)) V:=by
  have q:=M6.out.led.look HPW.out
  rw [hF] at q;exact q
 have M7:Hid (Fm O n V M Q T root P/\Below W.heap.size W V):=⟨M6.out,G6.out.1⟩
 have cc:=HM.out.con p c hF
 have lc:c<W.heap.size:=HM.out.lt c (by rw [cc.2.2];omega)
 have HBB:Hid (∀ i,0<=P.B c i/\P.B c i<256):=cc.2.1
 have G7:Hid (Blk V b1 [.int .i64 4,.int .i64 k1,.int .i64 k2,.bool k3,.bool k4,.bool k5,.int .u64 ad,.int .i64 sz,.int .u64 x,.int .i64 k6,.int .i64 k7,.int .i64 k8,.int .i64 k9] 59/\Blk V b2 [.int .i64 0,.int .u64 0,.int .i64 0,.int .u64 0,.int .i64 0,.bool false] 39/\c<W.heap.size/\b1≠c/\b2≠c):=by
  have nb:=NB.out
  exact ⟨G6.out.2.1,G6.out.2.2,lc,by omega,by omega⟩
 have PG:Hid (Page V c (P.B c)/\c<V.heap.size):=⟨(M6.out.con p c hF).1,Nat.lt_of_lt_of_le lc G6.out.1.size⟩
 have BS:Hid (Blk V M.pb [.int .i64 0,.int .i64 P.k,.int .u64 0,.int .u64 0,.int .u64 0,.int .u64 0,.int .i64 0,.int .u64 0,.bool false,.int .u64 0,.int .i64 0,.int .u64 0,.int .u64 0,.int .u64 0,.int .u64 0,.slice P.rp P.L.length P.rc,.map (some M.lb),.map (some M.wb)] 77/\Blk V b1 [.int .i64 4,.int .i64 k1,.int .i64 k2,.bool k3,.bool k4,.bool k5,.int .u64 ad,.int .i64 sz,.int .u64 x,.int .i64 k6,.int .i64 k7,.int .i64 k8,.int .i64 k9] 59/\MapL V M.lb n P.F):=⟨M6.out.pro,G6.out.2.1,M6.out.led⟩
 have LKC:Hid (∀ w:World,MapL w M.lb n P.F->(Instr.lookup 74 (.map (some M.lb)) (.int .i64 p) false).run Tryz.prog w=.ok (.pointer (some ⟨c,0,none⟩)) w):=fun w hw=>by
  have q:=hw.look HPW.out
  rw [HF.out] at q;exact q
 clear hF cc lc M6
 have B2:Hid (Blk V b2 [.int .i64 0,.int .u64 0,.int .i64 0,.int .u64 0,.int .i64 0,.bool false] 39):=G7.out.2.1
 have NE:Hid (M.pb≠c/\b1≠c/\M.lb≠c/\b2≠c/\M.pb≠b2/\b1≠b2/\M.lb≠b2):=by
  obtain ⟨_,_,h3,h4,h5⟩:=G7.out
  have nb:=NB.out
  have l5:=HM.out.lt M.pb (by rw [HM.out.o5];omega)
  have l7:=HM.out.lt M.lb (by rw [HM.out.o7];omega)
  exact ⟨fun e=>by have:=(HM.out.con p c HF.out).2.2;rw [<- e,HM.out.o5] at this;omega,h4,fun e=>by have:=(HM.out.con p c HF.out).2.2;rw [<- e,HM.out.o7] at this;omega,h5,by omega,nb.2.2,by omega⟩
 have MC:Hid (∀ w:World,Page w c (P.B c)->c<w.heap.size->Calls Tryz.prog 51 #[pp c,.agg #[.int .i64 4,.int .i64 k1,.int .i64 k2,.bool k3,.bool k4,.bool k5,.int .u64 ad,.int .i64 sz,.int .u64 x,.int .i64 k6,.int .i64 k7,.int .i64 k8,.int .i64 k9]] w fun e w'=>e=.returned (.agg #[.int .i64 0,.int .u64 X,.int .i64 0,.int .u64 0,.int .i64 0,.bool false])/\Below w.heap.size w w'):=fun w hw hl=>by
  have q:=move_load c (P.B c) k1 k2 k3 k4 k5 ad sz x k6 k7 k8 k9 w hw HBB.out hl HA.out.2.1 HA.out.2.2.1 HA.out.2.2.2.1 HA.out.2.2.2.2.1 HA.out.2.2.2.2.2
  rw [<- HXX.out] at q;exact q
 go_upto_region 10 with fail
 refine wp_region_noPanic ?_
 refine wp_region_held_drew (S:=fun cw=>Blk cw M.pb [.int .i64 0,.int .i64 P.k,.int .u64 0,.int .u64 0,.int .u64 0,.int .u64 0,.int .i64 0,.int .u64 0,.bool false,.int .u64 0,.int .i64 0,.int .u64 0,.int .u64 0,.int .u64 0,.int .u64 0,.slice P.rp P.L.length P.rc,.map (some M.lb),.map (some M.wb)] 77/\Blk cw b1 [.int .i64 4,.int .i64 k1,.int .i64 k2,.bool k3,.bool k4,.bool k5,.int .u64 ad,.int .i64 sz,.int .u64 x,.int .i64 k6,.int .i64 k7,.int .i64 k8,.int .i64 k9] 59/\MapL cw M.lb n P.F) (by kernel_rfl) ?_ (fun hHeld=> ?_)
 . exact BS.out
 have KU:Hid (Below V.heap.size V V.drew):=below_drew (Below.refl _ _)
 change Hid (Page V.drew c (P.B c)/\c<V.drew.heap.size) at PG
 change Hid (Blk V.drew b2 [.int .i64 0,.int .u64 0,.int .i64 0,.int .u64 0,.int .i64 0,.bool false] 39) at B2
 clear BS
 generalize V.drew=U at hHeld KU PG B2 |-
 refine tk 0 69 ?_ rfl (Or.inl ⟨by rfl,?_⟩) ?_
 rotate_left
 . intro w hSw;(try dsimp only at hSw);go_simp;(try with_reducible rfl)
 try simp only [Act.put,z1,z2,z3]
 refine tk 1 70 ?_ rfl (Or.inl ⟨by rfl,?_⟩) ?_
 rotate_left
 . intro w hSw;(try dsimp only at hSw);go_simp;(try with_reducible rfl)
 try simp only [Act.put,z1,z2,z3]
 refine tk 2 71 ?_ rfl (Or.inl ⟨by rfl,?_⟩) ?_
 rotate_left
 . intro w hSw;(try dsimp only at hSw);go_simp;(try with_reducible rfl)
 try simp only [Act.put,z1,z2,z3]
 refine tk 3 72 ((.map (some M.lb))) rfl (Or.inl ⟨by rfl,?_⟩) ?_
 . intro w hSw;(try dsimp only at hSw);have r:=Blk.cell hSw.1 16;(try go_simp);(try simp [*])
 try simp only [Act.put,z1,z2,z3]
 refine tk 4 73 ?_ rfl (Or.inl ⟨by rfl,?_⟩) ?_
 rotate_left
 . intro w hSw;(try dsimp only at hSw);go_simp;(try with_reducible rfl)
 try simp only [Act.put,z1,z2,z3]
 refine tk 5 74 ((.pointer (some ⟨c,0,none⟩))) rfl (Or.inl ⟨by rfl,?_⟩) ?_
 . intro w hSw;(try dsimp only at hSw);have r:=LKC.out w hSw.2.2;(try go_simp);(try simp [*])
 try simp only [Act.put,z1,z2,z3]
 refine tk 6 75 (.agg #[.int .i64 4,.int .i64 k1,.int .i64 k2,.bool k3,.bool k4,.bool k5,.int .u64 ad,.int .i64 sz,.int .u64 x,.int .i64 k6,.int .i64 k7,.int .i64 k8,.int .i64 k9]) rfl (Or.inl ⟨by rfl,?_⟩) ?_
 . intro w hSw;(try dsimp only at hSw);have r0:=Blk.cell hSw.2.1 0;have r1:=Blk.cell hSw.2.1 1;have r2:=Blk.cell hSw.2.1 2;have r3:=Blk.cell hSw.2.1 3;have r4:=Blk.cell hSw.2.1 4;have r5:=Blk.cell hSw.2.1 5;have r6:=Blk.cell hSw.2.1 6;have r7:=Blk.cell hSw.2.1 7;have r8:=Blk.cell hSw.2.1 8;have r9:=Blk.cell hSw.2.1 9;have r10:=Blk.cell hSw.2.1 10;have r11:=Blk.cell hSw.2.1 11;have r12:=Blk.cell hSw.2.1 12;(try go_simp);(try simp [*])
 try simp only [Act.put,z1,z2,z3]
 refine wpAnyH_ready (rs:=[7]) (by kernel_rfl) (by simp) ?_
 refine AllReadyH.cons (o:=⟨some 76,_,_,_,_,none⟩) rfl (fun K hK=> ?_) AllReadyH.nil
 go_simp
 go_wp2_with (go_at_call 51;refine Calls.mono (MC.out _ PG.out.1 PG.out.2) ?_;rintro e u8 ⟨rfl,hb8⟩)
 have KU8:Hid (Below V.heap.size V u8):=below_then KU.out hb8
 have B28:Hid (Blk u8 b2 [.int .i64 0,.int .u64 0,.int .i64 0,.int .u64 0,.int .i64 0,.bool false] 39):=B2.out.below hb8
 refine hK.out _ _ ⟨hHeld.1.below hb8,hHeld.2.1.below hb8,hHeld.2.2.block (hb8.block _ hHeld.2.2.lt)⟩ (fun hHeld2=> ?_)
 clear hK K hHeld hb8 KU
 have hHeld:=hHeld2
 clear hHeld2
 try simp only [Act.put,z1,z2,z3]
 refine wpAnyH_ready (rs:=[8]) (by kernel_rfl) (by simp) ?_
 refine AllReadyH.cons (o:=⟨none,.store 39 (.tmp 6) (.tmp 76),_,_,_,none⟩) rfl (fun K hK=> ?_) AllReadyH.nil
 refine wanted_mp rfl ?_
 have th:u8.there b2 0 6:=B28.out.there
 refine wp_store_mid _ _ _ rfl b2 0 #[.int .i64 0,.int .u64 X,.int .i64 0,.int .u64 0,.int .i64 0,.bool false] rfl rfl th (by kernel_rfl) (by simp [Value.oneCell']) ?_
 (try simp only [List.toList_toArray])
 have gk:=grown_setCells b2 [.int .i64 0,.int .u64 X,.int .i64 0,.int .u64 0,.int .i64 0,.bool false] 0 u8
 have ne:=NE.out
 have F9:Hid (Blk (u8.setCells b2 0 [.int .i64 0,.int .u64 X,.int .i64 0,.int .u64 0,.int .i64 0,.bool false]) b2 [.int .i64 0,.int .u64 X,.int .i64 0,.int .u64 0,.int .i64 0,.bool false] 39):=B28.out.put rfl
 have S9:Hid (Blk (u8.setCells b2 0 [.int .i64 0,.int .u64 X,.int .i64 0,.int .u64 0,.int .i64 0,.bool false]) M.pb [.int .i64 0,.int .i64 P.k,.int .u64 0,.int .u64 0,.int .u64 0,.int .u64 0,.int .i64 0,.int .u64 0,.bool false,.int .u64 0,.int .i64 0,.int .u64 0,.int .u64 0,.int .u64 0,.int .u64 0,.slice P.rp P.L.length P.rc,.map (some M.lb),.map (some M.wb)] 77/\Blk (u8.setCells b2 0 [.int .i64 0,.int .u64 X,.int .i64 0,.int .u64 0,.int .i64 0,.bool false]) b1 [.int .i64 4,.int .i64 k1,.int .i64 k2,.bool k3,.bool k4,.bool k5,.int .u64 ad,.int .i64 sz,.int .u64 x,.int .i64 k6,.int .i64 k7,.int .i64 k8,.int .i64 k9] 59/\MapL (u8.setCells b2 0 [.int .i64 0,.int .u64 X,.int .i64 0,.int .u64 0,.int .i64 0,.bool false]) M.lb n P.F):=⟨(gk.block _ hHeld.1.lt (fun e=>ne.2.2.2.2.1 (Option.some.inj e))).trans hHeld.1,(gk.block _ hHeld.2.1.lt (fun e=>ne.2.2.2.2.2.1 (Option.some.inj e))).trans hHeld.2.1,hHeld.2.2.block (gk.block _ hHeld.2.2.lt (fun e=>ne.2.2.2.2.2.2 (Option.some.inj e)))⟩
 have HE:Hid (Below W.heap.size W (u8.setCells b2 0 [.int .i64 0,.int .u64 X,.int .i64 0,.int .u64 0,.int .i64 0,.bool false])):=by
  exact below_put (below_then M7.out.2 KU8.out) NB.out.2.1 _
 clear gk ne
 generalize u8.setCells b2 0 [.int .i64 0,.int .u64 X,.int .i64 0,.int .u64 0,.int .i64 0,.bool false]=u9 at *
 refine hK.out _ _ S9.out (fun hHeld2=> ?_)
 clear hK K hHeld th S9 B28 KU8
 have hHeld:=hHeld2
 clear hHeld2
 try simp only [Act.put,z1,z2,z3]
 clear hHeld
 refine wpAnyH_done (by kernel_rfl) ?_ _
 refine NoPanic.normal ?_
 have LV:(loadVar 39 ⟨b2,0,none⟩).run Tryz.prog u9=.ok (.agg #[.int .i64 0,.int .u64 X,.int .i64 0,.int .u64 0,.int .i64 0,.bool false]) u9:=run_loadVar_mid (P:=Tryz.prog) _ b2 0 39 [.int .i64 0,.int .u64 X,.int .i64 0,.int .u64 0,.int .i64 0,.bool false] _ F9.out.range Tryz.underlying39 rfl (by kernel_rfl)
 go_wp2_with fail
 refine bodyPost_ret (v:=.agg #[.int .i64 0,.int .u64 X,.int .i64 0,.int .u64 0,.int .i64 0,.bool false]) (results_one Tryz.results26 _ _ _ ⟨b2,0,none⟩ _ rfl LV) rfl ?_
 exact ⟨rfl,HE.out⟩
end Go.Proofs.YtlaiadheelgbdaaGreat.Fl
