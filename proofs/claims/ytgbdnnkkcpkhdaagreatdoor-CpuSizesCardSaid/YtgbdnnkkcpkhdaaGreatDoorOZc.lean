import Derived.Test.YtgbdnnkkcpkhdaaGreatDoorOXc
import Derived.RangeFuncNested
import Derived.RangeFuncBound
import Derived.RangeFuncCalls
import Derived.RangeFuncLeaves
import Derived.Shelf.Abstract
import Derived.Shelf.RegionOpen
import Derived.OwnWalkIn
import Derived.TacticsInMore
import Derived.LoopNIn
import Derived.LoopIn
import Derived.Maps.OwnIn
set_option linter.unusedSimpArgs false
set_option linter.unusedVariables false
set_option maxRecDepth 8000
set_option maxHeartbeats 4000000
open Go.ChangeShapes Go.WideShapes Go.ChangeAt Go.RowKit Go.Maps Go.Shelf
namespace Go.Proofs.YtgbdnnkkcpkhdaaGreatDoor.Bm
attribute [local go_sem] Oper.semAt_some
structure Kg (S:Nat->Prop) (W W':World):Prop where
 size:W.heap.size<=W'.heap.size
 block: ∀ j,S j->j<W.heap.size->W'.heap[j]? =W.heap[j]?
theorem Kg.refl (S:Nat->Prop) (W:World):Kg S W W:=⟨Nat.le_refl _,fun _ _ _=>rfl⟩
theorem Kg.trans {S:Nat->Prop} {A B C:World} (h:Kg S A B) (k:Kg S B C):Kg S A C:=⟨Nat.le_trans h.size k.size,fun j hj hl=>(k.block j hj (nla hl h.size)).trans (h.block j hj hl)⟩
theorem Kg.below {S:Nat->Prop} {A B:World} (h:bc A B):Kg S A B:=⟨h.size,fun j _ hl=>h.block j hl⟩
theorem grown_below {A B:World} (h:bc A B):A.grownBy B none:=⟨h.os,h.tape,h.output,h.size,fun j hj _=>h.block j hj⟩
def areasL (B:Nat->Int) (m:Nat):List Ar:=(List.range m).map (fun j=>arB B (j*20))
theorem areas_succ (B:Nat->Int) (k:Nat):areasL B (k+1)=areasL B k++[arB B (k*20)]:=by simp [areasL,List.range_succ]
theorem areas_len (B:Nat->Int) (k:Nat):(areasL B k).length=k:=by simp [areasL]
def encA (x:Ar):Array Value:= #[.agg #[.int .u64 x.f,.int .u64 x.l,.int .u32 x.k]]
set_option maxRecDepth 100000 in
theorem entries1_in (nn:Nat) (hn:1<=nn) (l Bs g o m c:Nat) (B:Nat->Int) (hB: ∀ i,0<=B i/\B i<256) (hm:m<=64) (hc:m*20<=c) (J Jx:List Ar->World->Prop) (W:World) (hJ:AbidesFrom W.heap.size J)
 (hY: ∀ pre x W1,J pre W1->pre.length<m->YieldAt Fence.wide (nn-1) Tryz.prog l (encA x) W1 fun e W' =>
  (e=.returned (.bool true)/\J (pre++[x]) W'/\Kg (fun j=>j=g\/j=Bs) W1 W')\/(e=.returned (.bool false)/\Jx (pre++[x]) W'))
 (hBs:W.cell? ⟨Bs,0,none⟩=some (.slice (some ⟨g,o,none⟩) (m*20) c)) (lb:Bs<W.heap.size) (lg:g<W.heap.size) (hcs: ∀ i,i<m*20->W.cell? ⟨g,o+i,none⟩=some (.int .u8 (B i))) (h0:J [] W) :
 CallsIn Fence.wide nn Tryz.prog 114 #[.func (.yield l) #[] #[],.pointer (some ⟨Bs,0,none⟩)] W fun e W'=>(∃ v,e=.returned v) /\
  ((∃ ys,ys=areasL B m/\J ys W')\/(∃ pre,(∃ k,k<=m/\pre=areasL B k)/\Jx pre W')):=by
 have HB:Hid (∀ i,0<=B i/\B i<256):=hB
 have HC:Hid (∀ i,i<m*20->W.cell? ⟨g,o+i,none⟩=some (.int .u8 (B i))):=hcs
 have HJ:Hid (AbidesFrom W.heap.size J):=hJ
 have HY:Hid (∀ pre x W1,J pre W1->pre.length<m->YieldAt Fence.wide (nn-1) Tryz.prog l (encA x) W1 fun e W' =>
  (e=.returned (.bool true)/\J (pre++[x]) W'/\Kg (fun j=>j=g\/j=Bs) W1 W')\/(e=.returned (.bool false)/\Jx (pre++[x]) W')):=hY
 obtain ⟨n,en⟩: ∃ n,m*20=n:=⟨_,rfl⟩
 have HN:Hid (m*20=n):=en
 have n9:n<=1280:=by omega
 rw [en] at hBs hc
 clear hB hcs hJ hY
 refine callsIn_of_wp Tryz.func114 rfl trivial ?_ rfl
 simp only [Tryz.ntmps114,List.size_toArray,List.length_cons,List.length_nil,Nat.reduceAdd,Nat.reduceSub,Array.replicate_succ,Array.replicate_zero,List.push_toArray,List.append_toArray,List.nil_append,List.cons_append]
 gi_wp2
 gi_loopw [3] (fun i wr=> ∃ k t:Nat,k<=m/\i=.int .i64 t/\Hid (t=k*20)/\Hid (J (areasL B k) wr)/\Hid (Kg (fun j=>j=g\/j=Bs) W wr)) (fun i _=>n-(intOf i).toNat)
 case atStart=>exact ⟨0,0,Nat.zero_le _,rfl,rfl,h0,Kg.refl _ _⟩
 case round =>
  obtain ⟨k,t,hk,rfl,ht,hJs,hK⟩:=hrel
  have cB:wr.cell? ⟨Bs,0,none⟩=some (.slice (some ⟨g,o,none⟩) n c):=(World.cell?_of_block (hK.out.block Bs (Or.inr rfl) lb)).trans hBs
  by_cases hlt:k<m
  . have tn:t+20<=n:=by have:=ht.out;have:=HN.out;omega
    have d1:decide ((t:Int)+20<=(n:Int))=true:=decide_eq_true (by omega)
    have ct: ¬ c=t:=by omega
    have EC0:=entry_any g (o+t) (c-t) t B HB.out (by omega) wr (fun i hi=>by
     rw [Nat.add_assoc]
     exact (World.cell?_of_block (hK.out.block g (Or.inl rfl) lg)).trans (HC.out (t+i) (by have:=HN.out;omega))) (nla lg hK.out.size)
    have NX:areasL B (k+1)=areasL B k++[arB B t]:=by rw [areas_succ,<- ht.out]
    obtain ⟨⟨X1,X2,X3⟩,hX⟩: ∃ X,arB B t=X:=⟨_,rfl⟩
    rw [hX] at EC0 NX
    have EC:Hid (CallsIn Fence.wide (nn-1) Tryz.prog 115 #[.slice (some ⟨g,o+t,none⟩) 20 (c-t)] wr (re (.agg #[.int .u64 X1,.int .u64 X2,.int .u32 X3]) wr)):=(callsIn_wide (n:=nn-1)).2 EC0
    have HNX:Hid (areasL B (k+1)=areasL B k++[⟨X1,X2,X3⟩]):=NX
    clear EC0 NX hX
    gi_wp2
    refine ⟨trivial,CallsIn.mono EC.out ?_⟩
    rintro e w3 ⟨rfl,hb⟩
    have hJ3:J (areasL B k) w3:=HJ.out _ wr w3 none hJs.out (grown_below hb) (fun r e=>by cases e)
    have hK3:Kg (fun j=>j=g\/j=Bs) W w3:=hK.out.trans (Kg.below hb)
    obtain ⟨fn,tmps,assign,body,hy,hR⟩:=HY.out _ ⟨X1,X2,X3⟩ w3 hJ3 (by rw [areas_len];exact hlt)
    dsimp only [encA] at hy
    have HR:Hid _:=hR
    have HK3:Hid _:=hK3
    clear hR hK3 hJ3 hb EC hJs hK cB
    gi_wp2
    refine RoundIn.mono HR.out ?_
    rintro e W3 (⟨rfl,hJ3,hk3⟩ | ⟨rfl,hJx3⟩)
    . have J4:Hid (J (areasL B (k+1)) W3):=by rw [HNX.out];exact hJ3
      have K4:Hid (Kg (fun j=>j=g\/j=Bs) W W3):=HK3.out.trans hk3
      clear hJ3 hk3 hy
      gi_wp2
      go_roundw
      case rel=>exact ⟨k+1,t+20,by omega,by simp,by have:=ht.out;show _=_;omega,J4,K4⟩
      case measure=>simp [intOf];omega
    . gi_wp2
      refine bodyPost_ret (results_none rfl _ _ _) rfl ?_
      exact ⟨⟨_,rfl⟩,.inr ⟨_,⟨k+1,by omega,HNX.out.symm⟩,hJx3⟩⟩
  . obtain rfl:k=m:=by omega
    have t9:t<=1280:=by have:=ht.out;have:=HN.out;omega
    have tn: ¬ ((t:Int)+20<=(n:Int)):=by have:=ht.out;have:=HN.out;omega
    have d1:decide ((t:Int)+20<=(n:Int))=false:=decide_eq_false tn
    gi_wp2
    go_end0
    exact ⟨⟨_,rfl⟩,.inl hJs.out⟩
theorem entries_any (a:Option Addr) (n c:Nat) (w:World):Calls Tryz.prog 100 #[.slice a n c] w fun e w'=>e=.returned (.func (.func 114) #[] #[.pointer (some ⟨w.heap.size,0,none⟩)])/\w'=w.alloc (.cells #[.slice a n c] 88):=by
 go_enter Tryz.func100,Tryz.ntmps100
 go_wp2_with fail
 go_ret
 exact ⟨rfl,rfl⟩
theorem entries_stops (nn:Nat) (hn:1<=nn) (Bs g o m c:Nat) (B:Nat->Int) (hB: ∀ i,0<=B i/\B i<256) (hm:m<=64) (hc:m*20<=c) (w:World)
 (hBs:w.cell? ⟨Bs,0,none⟩=some (.slice (some ⟨g,o,none⟩) (m*20) c)) (lb:Bs<w.heap.size) (lg:g<w.heap.size) (hcs: ∀ i,i<m*20->w.cell? ⟨g,o+i,none⟩=some (.int .u8 (B i))) :
 SeqStopsK Fence.wide nn Tryz.prog 114 #[.pointer (some ⟨Bs,0,none⟩)] encA (Kg (fun j=>j=g\/j=Bs)) (fun ys=>ys=areasL B m) (fun pre=> ∃ k,k<=m/\pre=areasL B k) m w:=fun l J Jx W hW hJ _ hY h0 =>
 entries1_in nn hn l Bs g o m c B hB hm hc J Jx W hJ hY ((hW.cell (p:=⟨Bs,0,none⟩) lb).trans hBs) (nla lb hW.size) (nla lg hW.size) (fun i hi=>(hW.cell (p:=⟨g,o+i,none⟩) lg).trans (hcs i hi)) h0
end Go.Proofs.YtgbdnnkkcpkhdaaGreatDoor.Bm
namespace Go.Proofs.YtgbdnnkkcpkhdaaGreatDoor.Bm
attribute [local go_sem] Oper.semAt_some
def Fit (x:Ar):Prop:= ¬ IntKind.u64.wrap (x.f+x.l)<x.f
theorem parse_big (a:Option Addr) (n c:Nat) (hn:1280<n) (w:World):Calls Tryz.prog 77 #[.slice a n c] w (re (.tuple #[.slice none 0 0,.int .i64 4]) w):=by
 have d1:decide ((1280:Int)<(n:Int))=true:=decide_eq_true (by omega)
 refine (callsIn_wide (n:=9)).1 ?_
 refine callsIn_of_wp Tryz.func77 rfl trivial ?_ rfl
 simp only [Tryz.ntmps77,List.size_toArray,List.length_cons,List.length_nil,Nat.reduceAdd,Nat.reduceSub,Array.replicate_succ,Array.replicate_zero,List.push_toArray,List.append_toArray,List.nil_append,List.cons_append]
 gi_wp2
 exact bodyPost_ret (v:=.tuple #[.slice none 0 0,.int .i64 4]) (by simp [results,Tryz.results77,go_sem]) rfl ⟨rfl,below_new baa _⟩
theorem parse_end (a:Option Addr) (n c:Nat) (hn:n<=1280) (hm:n % 20≠0) (w:World):Calls Tryz.prog 77 #[.slice a n c] w (re (.tuple #[.slice none 0 0,.int .i64 14]) w):=by
 have d1:decide ((1280:Int)<(n:Int))=false:=decide_eq_false (by omega)
 have d2:((n:Int) % 20 != 0)=true:=kh
 have d3: ¬ ((n:Int) % 20=0):=by omega
 refine (callsIn_wide (n:=9)).1 ?_
 refine callsIn_of_wp Tryz.func77 rfl trivial ?_ rfl
 simp only [Tryz.ntmps77,List.size_toArray,List.length_cons,List.length_nil,Nat.reduceAdd,Nat.reduceSub,Array.replicate_succ,Array.replicate_zero,List.push_toArray,List.append_toArray,List.nil_append,List.cons_append]
 gi_wp2
 exact bodyPost_ret (v:=.tuple #[.slice none 0 0,.int .i64 14]) (by simp [results,Tryz.results77,go_sem]) rfl ⟨rfl,below_new baa _⟩
theorem wpListIn_app {F:Fence} {nF:Nat} {P:Program} {ops:Array Oper} {rest:List Oper} {o:Oper} {a:Act} {w:World} {Q:Exit->Act->World->Prop} (hgd:o.guard=none) (s x:Operand) (t:TypeId)
 (ho:o.op=.call { callee:=.builtin .append,args:= #[s,x],argTypes:= #[t,t] }) (vs vx:Value) (hs:a.eval s=vs) (hx:a.eval x=vx) (v':Value) (w1:World)
 (hr:(Builtin.append_ #[t,t] o.type #[vs,vx]).run P w=.ok v' w1) (h:wpListIn F nF P ops Q rest (a.put o.dst v') w1):wpListIn F nF P ops Q (o::rest) a w:=by
 refine wpListIn_plain hgd fun K hK=> ?_
 unfold Oper.wpIn
 refine ⟨by simp [Oper.about,ho,resolve,Target.leads,Sem.run_pure],?_⟩
 rw [Oper.semAt_plain F _ _ (by rw [ho];intro c hc';cases hc')]
 unfold execOp
 simp only [ho,resolve,invoke,builtin,Sem.run_bind,Sem.run_pure,Result.andThen_ok,List.map_toArray,List.map_cons,List.map_nil,hs,hx,hr]
 exact hK _ _ h
theorem results_two {fn:Func} {p q:Tmp} {t t':TypeId} (h:fn.results= #[.cell p t,.cell q t']) (tmps:Array Value) (P:Program) (w:World) (a b:Addr) (x y:Value)
 (ha:tmps.getD p undef=.pointer (some a)) (hb:tmps.getD q undef=.pointer (some b)) (hx:(loadVar t a).run P w=.ok x w) (hy:(loadVar t' b).run P w=.ok y w):(results fn tmps).run P w=.ok (.tuple #[x,y]) w:=by
 simp only [results,h]
 have e1: ∀ (c:Addr) (W:World),(asAddr (Value.pointer (some c))).run P W=.ok c W:=fun _ _=>rfl
 simp at ha hb
 simp [Sem.run_bind,Result.andThen,ha,hb,e1,hx,hy]
theorem load1 {P:Program} {t:TypeId} (ht: ∀ w,(isAgg t).run P w=.ok false w) {w:World} {b:Nat} {v:Value} (h:w.cell? ⟨b,0,none⟩=some v):(loadVar t ⟨b,0,none⟩).run P w=.ok v w:=by
 have e:(load ⟨b,0,none⟩).run P w=.ok v w:=by simp [go_sem,h]
 simp [loadVar,ht,h,go_sem]
structure PI (w W0:World) (pre:List Ar) (W:World):Prop where
 own: ∃ v,Boxed W (w.heap.size+2) 175 v/\OL 179 3 eA W W0.heap.size v pre
 b2:Boxed W w.heap.size 175 (.slice none 0 0)
 b3:Boxed W (w.heap.size+1) 37 (.int .i64 0)
 fit: ∀ x∈pre,Fit x
 bel:bc w W
 sz:W0.heap.size<=W.heap.size
structure PX (w:World) (c:Code) (pre:List Ar) (W:World):Prop where
 ret:c=.ret
 b2:Boxed W w.heap.size 175 (.slice none 0 0)
 b3:Boxed W (w.heap.size+1) 37 (.int .i64 3)
 fit: ∃ x∈pre,¬ Fit x
 bel:bc w W
theorem boxed_far {W W':World} {B n r0:Nat} {t:TypeId} {v:Value} {row:Option Nat} (h:Boxed W B t v) (hg:W.grownBy W' row) (hr: ∀ r,row=some r->n<=r) (hB:B<n):Boxed W' B t v:=h.kept hg (fun e=>by have:=hr B e.symm;omega)
theorem ol_far {W W':World} {base:Nat} {v:Value} {L:List Ar} {row:Option Nat} (h:OL 179 3 eA W base v L) (hg:W.grownBy W' row) (hr: ∀ r,row=some r-> ∃ o:Obj,W.heap[r]? =some o/\o.isCells=false):OL 179 3 eA W' base v L :=
 row_keep h (fun g e=>hg.block g (row_lt h g e).2 (fun e2=>by
  obtain ⟨o,ho,hc⟩:=hr g e2.symm
  obtain ⟨_,⟨rfl,_⟩ | ⟨g',cap',cur,rfl,_,e3,_⟩⟩:=h
  . cases e
  . cases e
    rw [e3] at ho
    cases ho
    cases hc))
theorem PI.own_from (w W0:World) (h4:w.heap.size+4<=W0.heap.size):OwnFrom W0.heap.size (PI w W0):=fun s W W' row hs hg hr=>by
 have hr1: ∀ r,row=some r->W0.heap.size<=r:=fun r e=>(hr r e).1
 obtain ⟨v,h1,h2⟩:=hs.own
 exact ⟨⟨v,boxed_far (r0:=0) h1 hg hr1 (by omega),ol_far h2 hg (fun r e=>(hr r e).2)⟩,boxed_far (r0:=0) hs.b2 hg hr1 (by omega),boxed_far (r0:=0) hs.b3 hg hr1 (by omega),hs.fit,hs.bel.grown hg hs.bel.size (fun k e=>by have:=hr1 k e;omega),Nat.le_trans hs.sz hg.size⟩
theorem PX.own_from (w W0:World) (h4:w.heap.size+4<=W0.heap.size) (c:Code):OwnFrom W0.heap.size (PX w c):=fun s W W' row hs hg hr=>by
 have hr1: ∀ r,row=some r->W0.heap.size<=r:=fun r e=>(hr r e).1
 exact ⟨hs.ret,boxed_far (r0:=0) hs.b2 hg hr1 (by omega),boxed_far (r0:=0) hs.b3 hg hr1 (by omega),hs.fit,hs.bel.grown hg hs.bel.size (fun k e=>by have:=hr1 k e;omega)⟩
set_option maxRecDepth 100000 in
theorem parse_loop (g o m n c:Nat) (B:Nat->Int) (hB: ∀ i,0<=B i/\B i<256) (hm:m<=64) (hn:n=m*20) (hc:n<=c) (w:World) (lg:g<w.heap.size) (hcs: ∀ i,i<n->w.cell? ⟨g,o+i,none⟩=some (.int .u8 (B i))) :
 Calls Tryz.prog 77 #[.slice (some ⟨g,o,none⟩) n c] w fun e w'=>((∃ v',e=.returned (.tuple #[v',.int .i64 0])/\OL 179 3 eA w' w.heap.size v' (areasL B m)/\ ∀ x∈areasL B m,Fit x)\/(e=.returned (.tuple #[.slice none 0 0,.int .i64 3])/\ ∃ x∈areasL B m,¬ Fit x))/\bc w w':=by
 have d1:decide ((1280:Int)<(n:Int))=false:=decide_eq_false (by omega)
 have d2:((n:Int) % 20 != 0)=false:=kh
 have d3:(n:Int) % 20=0:=by omega
 have n9:n<=1280:=by omega
 have HN:Hid (n=m*20):=hn
 have HM:Hid (m<=64):=hm
 clear hn hm
 have HEN:Hid (∀ W:World,_):=fun W=>(callsIn_wide (n:=8)).2 (entries_any (some ⟨g,o,none⟩) n c W)
 have HS:Hid (∀ (Bs:Nat) (W:World),W.cell? ⟨Bs,0,none⟩=some (.slice (some ⟨g,o,none⟩) n c)->Bs<W.heap.size->bc w W->_):=fun Bs W h1 h2 h3=>entries_stops 8 (by omega) Bs g o m c B hB HM.out (by have:=HN.out;omega) W (by rw [h1,HN.out]) h2 (nla lg h3.size) (fun i hi=>(h3.cell (p:=⟨g,o+i,none⟩) lg).trans (hcs i (by have:=HN.out;omega)))
 clear hB hcs
 refine (callsIn_wide (n:=9)).1 ?_
 refine callsIn_of_wp_marks Tryz.func77 rfl trivial ?_ rfl
 simp only [Tryz.ntmps77,List.size_toArray,List.length_cons,List.length_nil,Nat.reduceAdd,Nat.reduceSub,Array.replicate_succ,Array.replicate_zero,List.push_toArray,List.append_toArray,List.nil_append,List.cons_append]
 gi_wp2
 refine ⟨trivial,CallsIn.mono (HEN.out _) ?_⟩
 rintro e w' ⟨rfl,rfl⟩
 clear HEN
 gi_wp2
 have hB0:bc w ((((w.alloc (.cells #[.slice none 0 0] 175)).alloc (.cells #[.int .i64 0] 37)).alloc (.cells #[.slice none 0 0] 175)).alloc (.cells #[.slice (some ⟨g,o,none⟩) n c] 88)):=below_new (below_new (below_new baa _) _) _
 have bx2:=(((Boxed.new w 175 (.slice none 0 0)).alloc (.cells #[.int .i64 0] 37)).alloc (.cells #[.slice none 0 0] 175)).alloc (.cells #[.slice (some ⟨g,o,none⟩) n c] 88)
 have bx3:=((Boxed.new (w.alloc (.cells #[.slice none 0 0] 175)) 37 (.int .i64 0)).alloc (.cells #[.slice none 0 0] 175)).alloc (.cells #[.slice (some ⟨g,o,none⟩) n c] 88)
 have bx4:=(Boxed.new ((w.alloc (.cells #[.slice none 0 0] 175)).alloc (.cells #[.int .i64 0] 37)) 175 (.slice none 0 0)).alloc (.cells #[.slice (some ⟨g,o,none⟩) n c] 88)
 have bx5:=Boxed.new (((w.alloc (.cells #[.slice none 0 0] 175)).alloc (.cells #[.int .i64 0] 37)).alloc (.cells #[.slice none 0 0] 175)) 88 (.slice (some ⟨g,o,none⟩) n c)
 have hsz:((((w.alloc (.cells #[.slice none 0 0] 175)).alloc (.cells #[.int .i64 0] 37)).alloc (.cells #[.slice none 0 0] 175)).alloc (.cells #[.slice (some ⟨g,o,none⟩) n c] 88)).heap.size=w.heap.size+4:=by simp
 simp only [World.size_alloc] at bx3 bx4 bx5
 obtain ⟨W0,hW0⟩: ∃ W0,((((w.alloc (.cells #[.slice none 0 0] 175)).alloc (.cells #[.int .i64 0] 37)).alloc (.cells #[.slice none 0 0] 175)).alloc (.cells #[.slice (some ⟨g,o,none⟩) n c] 88))=W0:=⟨_,rfl⟩
 rw [hW0] at bx2 bx3 bx4 bx5 hB0 hsz |-
 clear hW0
 have SQ:=HS.out (w.heap.size+1+1+1) W0 bx5.cell bx5.lt hB0
 have hP0:PI w W0 [] W0:=⟨⟨_,bx4,ol_none _ _ _ _ _⟩,bx2,bx3,fun x hx=>absurd hx List.not_mem_nil,hB0,Nat.le_refl _⟩
 refine wpIn_rangeFunc_ownH rfl (by omega) (gf:=114) (lb:= #[.pointer (some ⟨w.heap.size+1+1+1,0,none⟩)]) rfl trivial (enters_of Tryz.func114 ka rfl) SQ Kg.trans (fun W l oo oo' hl ho _ _=>⟨by simp,fun j hj hlj=>World.putObj_heap_other (by rcases hj with e | e <;> omega)⟩) (Below.refl _ _) (fun _=>rfl)
  (PI w W0) (PX w) (PI.own_from w W0 (by omega)) (PX.own_from w W0 (by omega)) hP0
  (fun x a' W=> ∃ Bx,W0.heap.size<=Bx/\Blk W Bx [.int .u64 x.f,.int .u64 x.l,.int .u32 x.k] 179/\a'={ tmps:= #[.slice (some ⟨g,o,none⟩) n c,undef,.pointer (some ⟨w.heap.size,0,none⟩),.pointer (some ⟨w.heap.size+1,0,none⟩),.pointer (some ⟨w.heap.size+1+1,0,none⟩),.pointer (some ⟨Bx,0,none⟩),.slice (some ⟨g,o,none⟩) n c,.int .i64 n,.bool false,.slice (some ⟨g,o,none⟩) n c,.int .i64 n,.int .i64 0,.bool false,.slice (some ⟨g,o,none⟩) n c,.func (.func 114) #[] #[.pointer (some ⟨w.heap.size+1+1+1,0,none⟩)],.agg #[.int .u64 x.f,.int .u64 x.l,.int .u32 x.k],undef,undef,undef,undef,undef,undef,undef,undef,undef,undef],defers:=[] })
  (fun x a' _ X Y row hs hg hr=>by
   obtain ⟨Bx,e1,e2,e3⟩:=hs
   exact ⟨Bx,e1,(hg.block Bx (blk_lt e2) (fun e4=>by
    obtain ⟨_,oo,ho,hcc⟩:=hr Bx e4.symm
    rw [e2] at ho;cases ho;cases hcc)).trans e2,e3⟩) ?assign ?body ?done ?stop
 case assign =>
  rintro l pre x W K hi hK
  dsimp only [encA]
  gi_wp2
  refine hK _ _ ((KeepsOthers.alloc _ _).from _) (Kg.below baa) ?_ ⟨W.heap.size,hi.sz,Blk.made W _ _,rfl⟩
  obtain ⟨v,h1,h2⟩:=hi.own
  exact ⟨⟨v,h1.alloc _,row_below h2 baa⟩,hi.b2.alloc _,hi.b3.alloc _,hi.fit,below_new hi.bel _,Nat.le_trans hi.sz ke⟩
 case body =>
  rintro l pre x a' W hl ⟨r,hr⟩ hi ⟨Bx,hBx,bX,rfl⟩ hlt
  have EC:Hid (∀ W:World,_):=fun W=>CallsIn.inRound l ((callsIn_wide (n:=9-1-1-1)).2 (end_any x.f x.l x.k (IntKind.u64.wrap (x.f+x.l)) rfl W))
  have y0:W.cell? ⟨Bx,0,none⟩=some (.int .u64 x.f):=bX.cell 0
  have y1:W.cell? ⟨Bx,1,none⟩=some (.int .u64 x.l):=bX.cell 1
  have y2:W.cell? ⟨Bx,2,none⟩=some (.int .u32 x.k):=bX.cell 2
  have lx:=blk_lt bX
  have c2:W.cell? ⟨w.heap.size,0,none⟩=some (.slice none 0 0):=hi.b2.cell
  have f2:W.frozen? ⟨w.heap.size,0,none⟩=false:=hi.b2.frozen
  have c3:W.cell? ⟨w.heap.size+1,0,none⟩=some (.int .i64 0):=hi.b3.cell
  have f3:W.frozen? ⟨w.heap.size+1,0,none⟩=false:=hi.b3.frozen
  have l2:w.heap.size<W.heap.size:=hi.b2.lt
  have l3:w.heap.size+1<W.heap.size:=hi.b3.lt
  have l4:w.heap.size+2<W.heap.size:=by have:=hi.sz;omega
  have hmx:Tryz.prog.follows .mixedOrders=true:=ka
  have FT:Hid (Fit x↔ ¬ IntKind.u64.wrap (x.f+x.l)<x.f):=Iff.rfl
  have HI:Hid (PI w W0 pre W):=hi
  have HBX:Hid (Blk W Bx [.int .u64 x.f,.int .u64 x.l,.int .u32 x.k] 179):=bX
  clear hi bX hr SQ HS hP0 bx2 bx3 bx4 bx5
  generalize IntKind.u64.wrap (x.f+x.l)=z at EC FT
  obtain ⟨v,h4,hrow⟩:=HI.out.own
  have c4:W.cell? ⟨w.heap.size+1+1,0,none⟩=some v:=h4.cell
  have f4:W.frozen? ⟨w.heap.size+1+1,0,none⟩=false:=h4.frozen
  have HR4:Hid (Boxed W (w.heap.size+2) 175 v/\OL 179 3 eA W W0.heap.size v pre):=⟨h4,hrow⟩
  clear h4 hrow
  have HSZ:Hid (W0.heap.size=w.heap.size+4):=hsz
  clear hsz
  by_cases cz:z<x.f
  . have e1:decide (z<x.f)=true:=decide_eq_true cz
    have END:Hid (KeepsFrom W0.heap.size W (((W.setCell ⟨w.heap.size,0,none⟩ (.slice none 0 0)).setCell ⟨w.heap.size+1,0,none⟩ (.int .i64 3)).alloc (.cells #[.int .u64 x.f,.int .u64 x.l,.int .u32 x.k] 179)).drew/\PX w .ret (pre++[x]) (((W.setCell ⟨w.heap.size,0,none⟩ (.slice none 0 0)).setCell ⟨w.heap.size+1,0,none⟩ (.int .i64 3)).alloc (.cells #[.int .u64 x.f,.int .u64 x.l,.int .u32 x.k] 179)).drew):=by
     have h:=HI.out
     refine ⟨((((KeepsOthers.setCell _ _ _).trans (KeepsOthers.setCell _ _ _)).trans (KeepsOthers.alloc _ _)).trans (KeepsOthers.drew _)).from _,rfl,?_,?_,⟨x,List.mem_append_right _ List.mem_cons_self,fun hf=>FT.out.1 hf cz⟩,?_⟩
     . exact ((Boxed.set _ h.b2).other (by omega) _).alloc _
     . exact (Boxed.set _ (h.b3.other (by omega) _)).alloc _
     . exact below_drew (((h.bel.setCell (p:=⟨w.heap.size,0,none⟩) (Nat.le_refl _) _).setCell (p:=⟨w.heap.size+1,0,none⟩) (Nat.le_succ _) _).alloc (by rw [World.size_setCell,World.size_setCell];exact h.bel.size) _)
    clear HI HR4 HBX
    gi_wp2
    gi_region_with_o (refine ⟨trivial,?_⟩;gi_at_call 101;refine CallsIn.mono (EC.out _) ?_;rintro e w' ⟨rfl,rfl⟩)
    all_goals gi_wp2
    all_goals exact END.out
  . have e1:decide (z<x.f)=false:=decide_eq_false cz
    have X0:Hid (OL 179 3 eA (W.alloc (.cells #[.int .u64 x.f,.int .u64 x.l,.int .u32 x.k] 179)).drew W0.heap.size v pre):=row_below HR4.out.2 (below_drew baa)
    have xs:W0.heap.size<=(W.alloc (.cells #[.int .u64 x.f,.int .u64 x.l,.int .u32 x.k] 179)).drew.heap.size:=by show _<=(W.alloc _).heap.size;rw [World.size_alloc];have:=HI.out.sz;omega
    obtain ⟨v',W2,r,ho,hg,_⟩:=app_row eA_len eA_one (by decide) Tryz.underlying175 infoA rfl (by decide) W0.heap.size v pre x (by have:=HM.out;omega) _ X0.out xs
    have r2:(Builtin.append_ #[175,175] 175 #[v,.slice (some ⟨W.heap.size+1,0,none⟩) 1 1]).run Tryz.prog ((W.alloc (.cells #[.int .u64 x.f,.int .u64 x.l,.int .u32 x.k] 179)).alloc (.cells #[.int .u64 x.f,.int .u64 x.l,.int .u32 x.k] 179)).drew=.ok v' W2:=by
     have e:(W.alloc (.cells #[.int .u64 x.f,.int .u64 x.l,.int .u32 x.k] 179)).drew.heap.size=W.heap.size+1:=World.size_alloc _ _
     rw [e] at r
     exact r
    obtain ⟨p9,c9,hv9,_,_,_⟩:=(ol_ll eA_len ho).form
    obtain ⟨n9',hn9'⟩: ∃ n9',(pre++[x]).length=n9':=⟨_,rfl⟩
    rw [hn9'] at hv9
    have keep: ∀ bb,bb<W0.heap.size->bb<W.heap.size->W2.heap[bb]? =W.heap[bb]? :=fun bb h1 h2=>by
     have q1:((W.alloc (.cells #[.int .u64 x.f,.int .u64 x.l,.int .u32 x.k] 179)).drew.alloc (.cells (eA x).toArray 179)).heap[bb]? =W.heap[bb]? :=(baa.block bb (by show bb<(W.alloc _).heap.size;rw [World.size_alloc];omega)).trans ((Go.Joins.below_alloc1 W _).block bb h2)
     exact (hg.block bb (by rw [World.size_alloc];show bb<(W.alloc _).heap.size+1;rw [World.size_alloc];omega) (fun e=>by have:=(row_lt X0.out bb e.symm).1;omega)).trans q1
    have h:=HI.out
    have hz:=HSZ.out
    have k2:Boxed W2 w.heap.size 175 (.slice none 0 0):=(keep _ (by omega) h.b2.lt).trans h.b2
    have k3:Boxed W2 (w.heap.size+1) 37 (.int .i64 0):=(keep _ (by omega) h.b3.lt).trans h.b3
    have k4:Boxed W2 (w.heap.size+2) 175 v:=(keep _ (by omega) HR4.out.1.lt).trans HR4.out.1
    have g0:W.grownBy ((W.alloc (.cells #[.int .u64 x.f,.int .u64 x.l,.int .u32 x.k] 179)).drew.alloc (.cells (eA x).toArray 179)) none:=grown_below (below_new (below_drew baa) _)
    have bel2:bc w W2:=(below_new (below_drew (below_new h.bel _)) _).grown hg (by rw [World.size_alloc];show _<=(W.alloc _).heap.size+1;rw [World.size_alloc];have:=h.bel.size;omega) (fun k e=>by have:=(row_lt X0.out k e).1;omega)
    have ko:KeepsOthers W W2:=(KeepsOthers.of_grownBy g0 (fun j oo e _=>by cases e)).trans (KeepsOthers.of_grownBy hg (fun j oo e hoo=>by
     have Y:=row_below X0.out (Go.Joins.below_alloc1 _ (.cells (eA x).toArray 179))
     obtain ⟨_,⟨hv,_⟩ | ⟨g',cap',cur,hv,_,e3,_⟩⟩:=Y
     . rw [hv] at e;cases e
     . rw [hv] at e;cases e
       rw [e3] at hoo;cases hoo;rfl))
    have END:Hid (KeepsFrom W0.heap.size W (W2.setCell ⟨w.heap.size+1+1,0,none⟩ v')/\Kg (fun j=>j=g\/j=w.heap.size+1+1+1) W (W2.setCell ⟨w.heap.size+1+1,0,none⟩ v')/\PI w W0 (pre++[x]) (W2.setCell ⟨w.heap.size+1+1,0,none⟩ v')):=by
     refine ⟨(ko.trans (KeepsOthers.setCell _ _ _)).from _,⟨by rw [World.size_setCell];exact ko.size,fun j hj hlj=> ?_⟩,⟨v',Boxed.set _ k4,row_keep ho (fun g' e=>Below.heap_setCell _ _ _ _ (show g'≠w.heap.size+1+1 by have:=(row_lt ho g' e).1;omega))⟩,k2.other (by omega) _,k3.other (by omega) _,fun y hy=> ?_,bel2.setCell (p:=⟨w.heap.size+1+1,0,none⟩) (show w.heap.size<=w.heap.size+1+1 by omega) _,by rw [World.size_setCell];exact Nat.le_trans h.sz ko.size⟩
     . rw [Below.heap_setCell _ _ _ _ (show j≠w.heap.size+1+1 by rcases hj with e | e <;> omega)]
       exact keep j (by rcases hj with e | e <;> omega) hlj
     . rcases List.mem_append.1 hy with q | q
       . exact h.fit y q
       . obtain rfl:=List.mem_singleton.1 q
         exact FT.out.2 cz
    have s4:W2.cell? ⟨w.heap.size+1+1,0,none⟩=some v:=k4.cell
    have s4f:W2.frozen? ⟨w.heap.size+1+1,0,none⟩=false:=k4.frozen
    clear HI HR4 HBX ho hg h hz k2 k3 k4 g0 bel2 ko keep r X0 xs hn9'
    subst hv9
    gi_wp2
    gi_region_with_o (refine ⟨trivial,?_⟩;gi_at_call 101;refine CallsIn.mono (EC.out _) ?_;rintro e w' ⟨rfl,rfl⟩)
    all_goals gi_wp2_with (gi_at_builtin;refine wpListIn_app rfl _ _ 175 rfl v (.slice (some ⟨W.heap.size+1,0,none⟩) 1 1) rfl rfl (.slice p9 n9' c9) W2 r2 ?_)
    all_goals exact END.out
 case done =>
  rintro D ys W hD rfl hi hK
  obtain ⟨v,h4,hrow⟩:=hi.own
  obtain ⟨p9,c9,hv9,_,_,_⟩:=(ol_ll eA_len hrow).form
  have c4:W.cell? ⟨w.heap.size+1+1,0,none⟩=some v:=h4.cell
  have c2:W.cell? ⟨w.heap.size,0,none⟩=some (.slice none 0 0):=hi.b2.cell
  have f2:W.frozen? ⟨w.heap.size,0,none⟩=false:=hi.b2.frozen
  have c3:W.cell? ⟨w.heap.size+1,0,none⟩=some (.int .i64 0):=hi.b3.cell
  have f3:W.frozen? ⟨w.heap.size+1,0,none⟩=false:=hi.b3.frozen
  obtain ⟨n9',hn9'⟩: ∃ n9',(areasL B m).length=n9':=⟨_,rfl⟩
  rw [hn9'] at hv9
  have HI:Hid (PI w W0 (areasL B m) W):=hi
  have HR:Hid (OL 179 3 eA W W0.heap.size v (areasL B m)):=hrow
  have HK:Hid (W.heap[D]? =some (.deferred (some []))):=hK
  clear hi hrow hK h4 hn9' SQ HS hP0 bx2 bx3 bx4 bx5
  subst hv9
  gi_wp2
  have kk:=((KeepsOthers.setCell W ⟨w.heap.size,0,none⟩ (.slice p9 n9' c9)).trans (KeepsOthers.setCell _ ⟨w.heap.size+1,0,none⟩ (.int .i64 0))).same D _ HK.out rfl
  refine ⟨by simp,.inl ⟨_,_,rfl,run_takeDeferred kk,?_⟩⟩
  have hi:=HI.out
  have g1:=grownBy_putObj' ((W.setCell ⟨w.heap.size,0,none⟩ (.slice p9 n9' c9)).setCell ⟨w.heap.size+1,0,none⟩ (.int .i64 0)) D (.deferred none)
  have x2:Boxed ((W.setCell ⟨w.heap.size,0,none⟩ (.slice p9 n9' c9)).setCell ⟨w.heap.size+1,0,none⟩ (.int .i64 0)) w.heap.size 175 (.slice p9 n9' c9):=(Boxed.set _ hi.b2).other (by omega) _
  have x3:Boxed ((W.setCell ⟨w.heap.size,0,none⟩ (.slice p9 n9' c9)).setCell ⟨w.heap.size+1,0,none⟩ (.int .i64 0)) (w.heap.size+1) 37 (.int .i64 0):=Boxed.set _ (hi.b3.other (by omega) _)
  have z2:=(x2.kept g1 (fun e=>by have:=sia e;omega)).cell
  have z3:=(x3.kept g1 (fun e=>by have:=sia e;omega)).cell
  have ow:OL 179 3 eA ((W.setCell ⟨w.heap.size,0,none⟩ (.slice p9 n9' c9)).setCell ⟨w.heap.size+1,0,none⟩ (.int .i64 0)) W0.heap.size (.slice p9 n9' c9) (areasL B m) :=
   row_keep (row_keep HR.out (fun g' e=>Below.heap_setCell _ _ _ _ (show g'≠w.heap.size by have:=(row_lt HR.out g' e).1;omega))) (fun g' e=>Below.heap_setCell _ _ _ _ (show g'≠w.heap.size+1 by have:=(row_lt HR.out g' e).1;omega))
  have ow2:=ol_far ow g1 (fun r e=>by cases e;exact ⟨_,kk,rfl⟩)
  have bl:bc w ((W.setCell ⟨w.heap.size,0,none⟩ (.slice p9 n9' c9)).setCell ⟨w.heap.size+1,0,none⟩ (.int .i64 0)):=(hi.bel.setCell (p:=⟨w.heap.size,0,none⟩) (Nat.le_refl _) _).setCell (p:=⟨w.heap.size+1,0,none⟩) (Nat.le_succ _) _
  refine ⟨.tuple #[.slice p9 n9' c9,.int .i64 0],?_,Or.inl ⟨_,rfl,row_weak ow2 (by omega),hi.fit⟩,bl.grown g1 bl.size (fun k e=>by have:=sia e;omega)⟩
  exact results_two Tryz.results77 _ _ _ _ _ _ _ rfl rfl (load1 Tryz.isAgg175 z2) (load1 Tryz.isAgg37 z3)
 case stop =>
  rintro D cc pre W hD ⟨k,hk,hp⟩ hi hK
  obtain rfl:=hi.ret
  gi_wp2
  refine ⟨by simp,.inl ⟨_,_,rfl,run_takeDeferred hK,?_⟩⟩
  have g1:=grownBy_putObj' W D (.deferred none)
  have z2:=(hi.b2.kept g1 (fun e=>by have:=sia e;omega)).cell
  have z3:=(hi.b3.kept g1 (fun e=>by have:=sia e;omega)).cell
  refine ⟨.tuple #[.slice none 0 0,.int .i64 3],?_,Or.inr ⟨rfl,?_⟩,hi.bel.grown g1 hi.bel.size (fun k e=>by have:=sia e;omega)⟩
  . exact results_two Tryz.results77 _ _ _ _ _ _ _ rfl rfl (load1 Tryz.isAgg175 z2) (load1 Tryz.isAgg37 z3)
  . obtain ⟨x,hx,nf⟩:=hi.fit
    refine ⟨x,?_,nf⟩
    rw [hp] at hx
    unfold areasL at hx |-
    obtain ⟨q,hq,rfl⟩:=List.mem_map.1 hx
    exact List.mem_map.2 ⟨q,List.mem_range.2 (nla (List.mem_range.1 hq) hk),rfl⟩
end Go.Proofs.YtgbdnnkkcpkhdaaGreatDoor.Bm
