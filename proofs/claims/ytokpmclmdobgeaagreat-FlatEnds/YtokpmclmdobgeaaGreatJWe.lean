import Derived.Test.YtokpmclmdobgeaaGreatJZe
import Derived.Lib.AppendZeros
import Derived.Deep.Upon
import Derived.Maps.AppendAt
import Derived.Test.YtokpmclmdobgeaaGreatKZe
import Derived.Test.YtokpmclmdobgeaaGreatJUe
set_option linter.unusedSimpArgs false
set_option linter.unusedVariables false
set_option maxRecDepth 8000
set_option maxHeartbeats 4000000
open Go.ChangeShapes Go.WideShapes Go.ChangeAt Go.RowKit Go.Maps
namespace Go.Proofs.YtokpmclmdobgeaaGreat.Fl
theorem wpList_app {P:Program} {ops:Array Oper} {rest:List Oper} {o:Oper} {a:Act} {w:World} {Q:Exit->Act->World->Prop} (hgd:o.guard=none) (s x:Operand) (t:TypeId)
 (ho:o.op=.call { callee:=.builtin .append,args:= #[s,x],argTypes:= #[t,t] }) (vs vx:Value) (hs:a.eval s=vs) (hx:a.eval x=vx) (v':Value) (w1:World)
 (hr:(Builtin.append_ #[t,t] o.type #[vs,vx]).run P w=.ok v' w1) (h:wpList P ops Q rest (a.put o.dst v') w1):wpList P ops Q (o::rest) a w:=by
 refine wpList_plain hgd fun K hK=> ?_
 unfold Oper.wp execOp
 simp only [ho,resolve,invoke,builtin,Sem.run_bind,Sem.run_pure,Result.andThen_ok,List.map_toArray,List.map_cons,List.map_nil,hs,hx,hr]
 exact hK _ _ h
theorem rg_i: ∃ i,Tryz.prog.info? 126=some i/\i.zero=some Re.zrg/\i.size=6/\i.bytes=32:=Re.info5 Re.rg_info5
theorem grow_new (n:Nat) (hn:n<=1000) (W:World):Calls Tryz.prog 119 #[.slice none 0 0,.int .i64 n] W fun e w'=> ∃ v,e=.returned v/\Re.OwnL w' W.heap.size v []/\bc W w':=by
 by_cases c:n=0
 . subst c
   go_enter Tryz.func119,Tryz.ntmps119
   go_wp2_with fail
   go_returns
   exact ⟨_,rfl,World.ownsRow_nil _ _ _ _,Below.refl _ _⟩
 . obtain ⟨i,hi,hz,hs,hb⟩:=rg_i
   have hr:=Lib.run_append_nil_zeros (P:=Tryz.prog) W 84 3 84 126 i Re.zrg .i64 .i64 Tryz.underlying84 Tryz.underlying3 hi hz n (by omega) (by omega) (by omega) (by rw [hb];omega)
   have hg:=grownCap_ge W n 0 126
   have hm:=grownCap_le_maxLen W n 0 126 (by unfold maxLen;omega)
   have sz:(Builtin.zeroCells Re.zrg.cells n++Builtin.zeroCells Re.zrg.cells (grownCap W n 0 126-n)).size=grownCap W n 0 126*6:=by
    rw [Array.size_append,size_zeroCells,size_zeroCells,show Re.zrg.cells.size=6 by rfl,<- Nat.add_mul]
    congr 1;omega
   generalize grownCap W n 0 126=cp at hr hg hm sz
   generalize (Builtin.zeroCells Re.zrg.cells n++Builtin.zeroCells Re.zrg.cells (cp-n))=cs at hr sz
   have OM:Hid (Re.OwnL (W.drew.alloc (.cells cs 126)) W.heap.size (.slice (some ⟨W.heap.size,0,none⟩) 0 cp) []/\bc W (W.drew.alloc (.cells cs 126))):=⟨World.ownsRow_made W.drew cs cp (Nat.le_refl _) hm sz,below_new (below_drew (Below.refl _ _)) _⟩
   have d1:decide ((0:Int)<(n:Int))=true:=kg
   have d2:decide ((n:Int)<0)=false:=by simp
   have w1:IntKind.i64.wrap (n:Int)=n:=by rw [IntKind.wrap_i64];omega
   have f1:(0:Int)<=(cp:Int):=by omega
   clear sz hi hz hs hb
   go_enter Tryz.func119,Tryz.ntmps119
   go_wp2_with (at_builtin;refine Lib.wpList_append_run _ rfl _ _ _ _ rfl _ _ rfl rfl _ _ hr ?_)
   go_wp2_with fail
   go_returns
   exact ⟨_,rfl,OM.out⟩
def Sl (w:World) (x:Value) (L:List Re.Rg):Prop:= ∃ p c,x=.slice p L.length c/\L.length<=c/\(0<L.length-> ∃ g o,p=some ⟨g,o,none⟩/\g<w.heap.size/\ ∀ i,i<L.length-> ∀ j x,(L.getD i Re.Rg.zero).enc[j]? =some x->w.cell? ⟨g,o+i*6+j,none⟩=some x)
theorem Sl.below {w w':World} {x:Value} {L:List Re.Rg} (h:Sl w x L) (hb:bc w w'):Sl w' x L:=by
 obtain ⟨p,c,e,hc,h⟩:=h
 refine ⟨p,c,e,hc,fun hl=> ?_⟩
 obtain ⟨g,o,e1,lg,hh⟩:=h hl
 exact ⟨g,o,e1,nla lg hb.size,fun i hi j x hx=>(hb.cell (p:=⟨g,o+i*6+j,none⟩) lg).trans (hh i hi j x hx)⟩
theorem enc_one (r:Re.Rg): ∀ u∈r.enc,u.oneCell'=true:=by
 intro u hu
 simp only [Re.Rg.enc,List.mem_cons,List.not_mem_nil,or_false] at hu
 rcases hu with rfl | rfl | rfl | rfl | rfl | rfl <;> rfl
theorem app_sl (base:Nat) (v:Value) (L M:List Re.Rg) (x:Value) (w:World) (h:Re.OwnL w base v L) (hs:Sl w x M) (hl:L.length+M.length<=1000) (hb:base<=w.heap.size) :
 ∃ v' W2,(Builtin.append_ #[84,84] 84 #[v,x]).run Tryz.prog w=.ok v' W2/\Re.OwnL W2 base v' (L++M)/\w.grownBy W2 v.ownBlock:=by
 obtain ⟨i,hi,hz,hsz,hby⟩:=rg_i
 obtain ⟨p,c,rfl,hc,hM⟩:=hs
 by_cases z:0<M.length
 . obtain ⟨g,o,rfl,lg,hh⟩:=hM z
   have fl: ∀ N:List Re.Rg,(N.flatMap Re.Rg.enc).length=N.length*6:=fun N=>by
    induction N with
    | nil => rfl
    | cons a r ih => rw [List.flatMap_cons, List.length_append, ih, Re.renc_len, List.length_cons]; omega
   obtain ⟨v',w',hr,ho,hg,_⟩:=run_append_own_at (P:=Tryz.prog) w base 84 84 126 i Re.zrg 6 32 Tryz.underlying84 hi hz hsz hby rfl kh v L.length (L.flatMap Re.Rg.enc) h ⟨g,o,none⟩ M.length c (M.flatMap Re.Rg.enc) (fl M) (fun j u hu=>by
    have jl:j<M.length*6:=by rw [<- fl M];exact (List.getElem?_eq_some_iff.1 hu).1
    have q:=Re.flatR_enc M (j / 6) (j % 6) (by omega) (by omega)
    rw [show j / 6*6+j % 6=j by omega,hu] at q
    have:=hh (j / 6) (by omega) (j % 6) u q.symm
    rw [show o+j / 6*6+j % 6=o+j by omega] at this
    rw [Addr.add_mid];exact this) (fun u hu=>by
    obtain ⟨r,_,hr⟩:=List.mem_flatMap.1 hu
    exact enc_one r u hr) (by unfold maxLen;omega) (by omega) hb
   refine ⟨v',w',hr,?_,hg⟩
   show w'.ownsRow base 126 6 v' (L++M).length ((L++M).flatMap Re.Rg.enc)
   rw [List.length_append,List.flatMap_append];exact ho
 . have:M=[]:=List.length_eq_zero_iff.1 (by omega)
   subst this
   have vf: ∃ b sC,v=.slice b L.length sC/\L.length<=sC:=by
    rcases h.2 with ⟨e,e2⟩ | ⟨g',cap',cur,e1,_,_,e4,_⟩
    . exact ⟨none,0,by rw [e,e2],by omega⟩
    . exact ⟨_,_,e1,e4⟩
   obtain ⟨b,sC,rfl,le⟩:=vf
   refine ⟨_,w,?_,by rw [List.append_nil];exact h,grown_refl w _⟩
   cases p with
   | none => exact run_append_nothing w _ _ _ _ i Tryz.underlying84 hi b _ _ le _ (Src.ofNil w Tryz.underlying84 c)
   | some a => exact run_append_nothing w _ _ _ _ i Tryz.underlying84 hi b _ _ le _ (Src.ofSlice w Tryz.underlying84 a 0 c [] (by simp) (by simp) (by simp))
theorem concat_three (p1 p2 p3:Option Addr) (n1 n2 n3 c1 c2 c3:Nat) (L1 L2 L3:List Re.Rg) (h:Nat) (W:World) (hb:Blk W h [.slice p1 n1 c1,.slice p2 n2 c2,.slice p3 n3 c3] 84) (h1:Sl W (.slice p1 n1 c1) L1) (h2:Sl W (.slice p2 n2 c2) L2) (h3:Sl W (.slice p3 n3 c3) L3) (e1:L1.length=n1) (e2:L2.length=n2) (e3:L3.length=n3) (hl:n1+n2+n3<=300) :
 Calls Tryz.prog 116 #[.slice (some ⟨h,0,none⟩) 3 3] W fun e w'=>(∃ p c,e=.returned (.slice p (L1++L2++L3).length c)/\(L1++L2++L3).length<=c/\Re.IsL w' W.heap.size p (L1++L2++L3))/\bc W w':=by
 have z0:W.cell? ⟨h,0,none⟩=some (.slice p1 n1 c1):=hb.cell 0
 have z1:W.cell? ⟨h,1,none⟩=some (.slice p2 n2 c2):=hb.cell 1
 have z2:W.cell? ⟨h,2,none⟩=some (.slice p3 n3 c3):=hb.cell 2
 have HB:Hid (Blk W h [.slice p1 n1 c1,.slice p2 n2 c2,.slice p3 n3 c3] 84):=hb
 have HS1:Hid (∀ w,bc W w->Sl w (.slice p1 n1 c1) L1):=fun w hw=>h1.below hw
 have HS2:Hid (∀ w,bc W w->Sl w (.slice p2 n2 c2) L2):=fun w hw=>h2.below hw
 have HS3:Hid (∀ w,bc W w->Sl w (.slice p3 n3 c3) L3):=fun w hw=>h3.below hw
 have HN:Hid (L1.length=n1/\L2.length=n2/\L3.length=n3):=⟨e1,e2,e3⟩
 have BD:Hid (n1+n2+n3<=300):=hl
 have GC:Hid (∀ w:World,Calls Tryz.prog 119 #[.slice none 0 0,.int .i64 ((n1:Int)+n2+n3)] w fun e w'=> ∃ v,e=.returned v/\Re.OwnL w' w.heap.size v []/\bc w w'):=fun w=>by
  have q:=grow_new (n1+n2+n3) (by omega) w
  rw [show ((n1+n2+n3:Nat):Int)=(n1:Int)+n2+n3 by omega] at q;exact q
 have q1:IntKind.i64.wrap (n1:Int)=n1:=by rw [IntKind.wrap_i64];omega
 have q2:IntKind.i64.wrap ((n1:Int)+n2)=(n1:Int)+n2:=by rw [IntKind.wrap_i64];omega
 have q3:IntKind.i64.wrap ((n1:Int)+n2+n3)=(n1:Int)+n2+n3:=by rw [IntKind.wrap_i64];omega
 have d1:decide ((n1:Int)<0)=false:=by simp
 have d2:decide ((n1:Int)+n2<0)=false:=kg
 have d3:decide ((n1:Int)+n2+n3<0)=false:=kg
 clear hb h1 h2 h3 e1 e2 e3
 go_enter Tryz.func116,Tryz.ntmps116
 go_wp2_with fail
 refine wp_loop_rounds 5 ?_
 rw [rounds_succ]
 go_wp2_with fail
 rw [rounds_succ]
 go_wp2_with fail
 rw [rounds_succ]
 go_wp2_with fail
 rw [rounds_succ]
 go_wp2_with fail
 refine Calls.mono (GC.out _) ?_
 rintro e w0 ⟨v0,rfl,hO,hu⟩
 have O0:Hid (Re.OwnL w0 W.heap.size v0 []):=hO
 have K0:Hid (bc W w0):=hu
 clear hO hu GC z0 z1 z2 d1 d2 d3 q1 q2 q3 hl
 have z0:w0.cell? ⟨h,0,none⟩=some (.slice p1 n1 c1):=(HB.out.below K0.out).cell 0
 have z1:w0.cell? ⟨h,1,none⟩=some (.slice p2 n2 c2):=(HB.out.below K0.out).cell 1
 have z2:w0.cell? ⟨h,2,none⟩=some (.slice p3 n3 c3):=(HB.out.below K0.out).cell 2
 go_wp2_with fail
 refine wp_loop_rounds 5 ?_
 obtain ⟨v1,w1,r1,o1,g1⟩:=app_sl W.heap.size v0 [] L1 (.slice p1 n1 c1) w0 O0.out (HS1.out _ K0.out) (by have:=BD.out;have:=HN.out;simp only [List.length_append,List.length_nil];omega) K0.out.size
 have O1:Hid (Re.OwnL w1 W.heap.size v1 ([]++L1)):=o1
 have K1:Hid (bc W w1):=Re.below_grown K0.out O0.out g1
 clear o1 g1
 rw [rounds_succ]
 go_wp2_with (at_builtin;refine wpList_app rfl _ _ 84 rfl v0 (.slice p1 n1 c1) rfl rfl v1 w1 r1 ?_;have z0:w1.cell? ⟨h,0,none⟩=some (.slice p1 n1 c1):=(HB.out.below K1.out).cell 0;have z1:w1.cell? ⟨h,1,none⟩=some (.slice p2 n2 c2):=(HB.out.below K1.out).cell 1;have z2:w1.cell? ⟨h,2,none⟩=some (.slice p3 n3 c3):=(HB.out.below K1.out).cell 2)
 obtain ⟨v2,w2,r2,o2,g2⟩:=app_sl W.heap.size v1 ([]++L1) L2 (.slice p2 n2 c2) w1 O1.out (HS2.out _ K1.out) (by have:=BD.out;have:=HN.out;simp only [List.length_append,List.length_nil];omega) K1.out.size
 have O2:Hid (Re.OwnL w2 W.heap.size v2 (([]++L1)++L2)):=o2
 have K2:Hid (bc W w2):=Re.below_grown K1.out O1.out g2
 clear o2 g2
 rw [rounds_succ]
 go_wp2_with (at_builtin;refine wpList_app rfl _ _ 84 rfl v1 (.slice p2 n2 c2) rfl rfl v2 w2 r2 ?_;have z0:w2.cell? ⟨h,0,none⟩=some (.slice p1 n1 c1):=(HB.out.below K2.out).cell 0;have z1:w2.cell? ⟨h,1,none⟩=some (.slice p2 n2 c2):=(HB.out.below K2.out).cell 1;have z2:w2.cell? ⟨h,2,none⟩=some (.slice p3 n3 c3):=(HB.out.below K2.out).cell 2)
 obtain ⟨v3,w3,r3,o3,g3⟩:=app_sl W.heap.size v2 ([]++L1++L2) L3 (.slice p3 n3 c3) w2 O2.out (HS3.out _ K2.out) (by have:=BD.out;have:=HN.out;simp only [List.length_append,List.length_nil];omega) K2.out.size
 have O3:Hid (Re.OwnL w3 W.heap.size v3 (([]++L1++L2)++L3)):=o3
 have K3:Hid (bc W w3):=Re.below_grown K2.out O2.out g3
 clear o3 g3
 rw [rounds_succ]
 go_wp2_with (at_builtin;refine wpList_app rfl _ _ 84 rfl v2 (.slice p3 n3 c3) rfl rfl v3 w3 r3 ?_;have z0:w3.cell? ⟨h,0,none⟩=some (.slice p1 n1 c1):=(HB.out.below K3.out).cell 0;have z1:w3.cell? ⟨h,1,none⟩=some (.slice p2 n2 c2):=(HB.out.below K3.out).cell 1;have z2:w3.cell? ⟨h,2,none⟩=some (.slice p3 n3 c3):=(HB.out.below K3.out).cell 2)
 rw [rounds_succ]
 go_wp2_with fail
 go_returns
 obtain ⟨p,c,ev,hc,hL⟩:=Re.own_readb O3.out
 exact ⟨⟨p,c,by rw [ev];rfl,hc,hL⟩,K3.out⟩
theorem elemG:Tryz.prog.elem 84=126:=kc
theorem undG:Tryz.prog.underlying 84=some (.slice (Tryz.prog.elem 84)):=kc
theorem sizeG (W:World):(sizeOf 126).run Tryz.prog W=.ok 6 W:=kc
theorem sl_one (g n c i:Nat) (hi:i<n) (hc:n<=c) (W:World):(Instr.sliceAt 84 (.slice (some ⟨g,0,none⟩) n c) (some (.int .i64 (i:Int))) (some (.int .i64 ((i:Int)+1))) none).run Tryz.prog W=.ok (.slice (some ⟨g,i*6,none⟩) 1 (c-i)) W:=by
 rw [run_sliceAt_slice W _ _ _ _ _ undG,run_slice_lh W _ _ _ _ undG .i64 .i64 _ _ (by omega) (by omega) (by omega),elemG,sizeG]
 show Result.ok (sliced _ _ _ _ _) W=_
 have e1:(i:Int).toNat=i:=by simp
 have e2:((i:Int)+1).toNat=i+1:=by omega
 rw [sliced,e1,e2,if_neg (by omega),show i+1-i=1 by omega]
 simp only [Option.map_some]
 rw [show (Addr.add ⟨g,0,none⟩ (i*6))=⟨g,i*6,none⟩ by rw [Addr.add_mid];simp]
theorem sl_head (g n c i:Nat) (hi:i<n) (hc:n<=c) (W:World):(Instr.sliceAt 84 (.slice (some ⟨g,0,none⟩) n c) none (some (.int .i64 (i:Int))) none).run Tryz.prog W=.ok (.slice (some ⟨g,0,none⟩) i c) W:=by
 rw [run_sliceAt_slice W _ _ _ _ _ undG,run_slice_h W _ _ _ _ undG .i64 _ (by omega) (by omega),elemG,sizeG]
 show Result.ok (sliced _ _ _ _ _) W=_
 have e1:(i:Int).toNat=i:=by simp
 rw [sliced,e1,if_neg (by omega),show i-0=i by omega,show c-0=c by omega]
 rfl
theorem sl_tail (g n c i:Nat) (hi:i<n) (hc:n<=c): ∃ q,(0<n-(i+1)->q=some ⟨g,(i+1)*6,none⟩)/\ ∀ W,(Instr.sliceAt 84 (.slice (some ⟨g,0,none⟩) n c) (some (.int .i64 ((i:Int)+1))) none none).run Tryz.prog W=.ok (.slice q (n-(i+1)) (c-(i+1))) W:=by
 refine ⟨if n=i+1 then (if c=i+1 then some ⟨g,0,none⟩ else some ⟨g,(i+1)*6,none⟩) else some ⟨g,(i+1)*6,none⟩,fun h=>if_neg (by omega),fun W=> ?_⟩
 rw [run_sliceAt_slice W _ _ _ _ _ undG,run_slice_l W _ _ _ _ undG .i64 _ (by omega) (by omega),elemG,sizeG]
 show Result.ok (sliced _ _ _ _ _) W=_
 have e2:((i:Int)+1).toNat=i+1:=by omega
 rw [sliced,e2]
 congr 2
 by_cases e:c=i+1
 . rw [if_pos e,if_pos (by omega),if_pos e]
 . rw [if_neg e,if_neg e]
   simp only [Option.map_some,ite_self]
   rw [show (Addr.add ⟨g,0,none⟩ ((i+1)*6))=⟨g,(i+1)*6,none⟩ by rw [Addr.add_mid];simp]
theorem single_any (p:Int) (p0:0<=p) (p1:p<34359738368) (W:World):Calls Tryz.prog 103 #[.int .i64 p] W (re (.agg #[.int .i64 p,.int .i64 (p+1)]) W):=by
 have dw:IntKind.i64.wrap (p+1)=p+1:=km1
 go_enter Tryz.func103,Tryz.ntmps103
 go_wp2_with fail
 go_returns
 exact ⟨rfl,baa⟩
def cutR (r:Re.Rg) (pg:Int):List Re.Rg:=Re.chg (fun _=>Re.Rg.zero) pg (pg+1) [r]
def wout (L:List Re.Rg) (pg:Int) (i:Nat):List Re.Rg:=L.take i++cutR (L.getD i Re.Rg.zero) pg++L.drop (i+1)
theorem without_ok (p:Option Addr) (c:Nat) (L:List Re.Rg) (hL:L.length<=100) (hc:L.length<=c) (pg:Int) (p0:0<=pg) (p1:pg<34359738368) (i:Nat) (hi:i<L.length) (hh:hasR (L.getD i Re.Rg.zero) pg=true) (hn: ∀ j,j<i->hasR (L.getD j Re.Rg.zero) pg=false) (hg:Re.goodB [L.getD i Re.Rg.zero]=true) (hl:(cutR (L.getD i Re.Rg.zero) pg).length<=3) (W:World) (h:Re.IsL W 0 p L) :
 Calls Tryz.prog 104 #[.slice p L.length c,.int .i64 pg] W fun e w'=>(∃ p' c',e=.returned (.slice p' (wout L pg i).length c')/\(wout L pg i).length<=c'/\Re.IsL w' W.heap.size p' (wout L pg i))/\bc W w':=by
 obtain ⟨n,hN⟩: ∃ n,L.length=n:=⟨_,rfl⟩
 obtain ⟨g,rfl,_,lg,cc⟩:=h i hi
 obtain ⟨N,hcut⟩: ∃ N,cutR (L.getD i Re.Rg.zero) pg=N:=⟨_,rfl⟩
 rw [hcut] at hl
 have IC:Hid (∀ (B0:Nat) (w:World),bc W w->w.cell? ⟨B0,0,none⟩=some (.int .i64 pg)->B0<w.heap.size->Calls Tryz.prog 114 #[.slice (some ⟨g,0,none⟩) n c,.func (.func 115) #[] #[pp B0]] w (re (.int .i64 i) w)):=fun B0 w hb h1 h2=>by
  have q:=index_reg (some ⟨g,0,none⟩) c L hL B0 pg w (h.below hb) h1 h2
  rw [hN] at q
  refine Calls.mono q ?_
  rintro e w' ⟨⟨r,he,hr⟩,hb'⟩
  refine ⟨?_,hb'⟩
  rcases hr with ⟨k,k1,rfl,k2,k3⟩ | ⟨_,k3⟩
  . have:k=i:=by
     rcases Nat.lt_trichotomy k i with q | q | q
     . rw [hn k q] at k2;cases k2
     . exact q
     . rw [k3 i q] at hh;cases hh
    rw [he,this]
  . rw [k3 i hi] at hh;cases hh
 have SC:Hid (∀ w:World,Calls Tryz.prog 103 #[.int .i64 pg] w (re (.agg #[.int .i64 pg,.int .i64 (pg+1)]) w)):=fun w=>single_any pg p0 p1 w
 have CC:Hid (∀ w:World,bc W w->Calls Tryz.prog 78 #[.slice (some ⟨g,i*6,none⟩) 1 (c-i),.agg #[.int .i64 pg,.int .i64 (pg+1)]] w fun e w'=> ∃ p' c',e=.returned (.tuple #[.slice p' N.length c',.int .i64 0])/\N.length<=c'/\Re.IsL w' W.heap.size p' N/\bc w w'):=fun w hb=>by
  have q:=Re.cut_o (i*6) 0 (some ⟨g,i*6,none⟩) (c-i) [L.getD i Re.Rg.zero] (by simp) pg (pg+1) w (fun k hk=>by
   have:k=0:=by simpa using hk
   subst this
   refine ⟨g,rfl,Nat.zero_le _,nla lg hb.size,fun j x hx=> ?_⟩
   rw [show i*6+0*6+j=i*6+j by omega]
   exact (hb.cell (p:=⟨g,i*6+j,none⟩) lg).trans (cc j x hx))
  refine Calls.mono q ?_
  rintro e w' ⟨v,er,he,ha,hb'⟩
  obtain ⟨a1,p',c',a2,a3,a4⟩:=Re.ans_readb ha
  have k0:Re.checkN [L.getD i Re.Rg.zero] pg (pg+1)=0:=by
   unfold Re.checkN
   rw [if_pos (by unfold Re.rightB;simp;omega),if_pos hg]
  have e0:Re.errA (Re.checkN [L.getD i Re.Rg.zero] pg (pg+1)) (Re.chg (fun _=>Re.Rg.zero) pg (pg+1) [L.getD i Re.Rg.zero])=0:=by
   rw [k0];unfold Re.errA
   rw [if_pos rfl,if_pos]
   have:Re.chg (fun _=>Re.Rg.zero) pg (pg+1) [L.getD i Re.Rg.zero]=N:=hcut
   rw [this];omega
  have o0:Re.outL (Re.checkN [L.getD i Re.Rg.zero] pg (pg+1)) (Re.chg (fun _=>Re.Rg.zero) pg (pg+1) [L.getD i Re.Rg.zero])=N:=by
   unfold Re.outL
   rw [if_pos e0];exact hcut
  rw [e0] at a1
  rw [o0] at a2 a3 a4
  exact ⟨p',c',by rw [he,a1,a2],a3,a4.weak hb.size,hb'⟩
 have TC:Hid (∀ (q p6:Option Addr) (c6:Nat) (b:Nat) (w:World),(0<n-(i+1)->q=some ⟨g,(i+1)*6,none⟩)->bc W w->Re.IsL w W.heap.size p6 N->N.length<=c6->Blk w b [.slice (some ⟨g,0,none⟩) i c,.slice p6 N.length c6,.slice q (n-(i+1)) (c-(i+1))] 84->Calls Tryz.prog 116 #[.slice (some ⟨b,0,none⟩) 3 3] w fun e w'=>(∃ p c,e=.returned (.slice p (wout L pg i).length c)/\(wout L pg i).length<=c/\Re.IsL w' W.heap.size p (wout L pg i))/\bc w w'):=fun q p6 c6 b w hq hb h6 hc6 hbk=>by
  have hw:=h.below hb
  have s1:Sl w (.slice (some ⟨g,0,none⟩) i c) (L.take i):=⟨_,_,by rw [List.length_take,Nat.min_eq_left (by omega)],by rw [List.length_take];omega,fun _=>⟨g,0,rfl,nla lg hb.size,fun k hk j x hx=>by
   rw [List.length_take] at hk
   obtain ⟨g',e,_,_,k2⟩:=hw k (by omega)
   cases e
   have:=k2 j x (by
    rw [<- hx]
    congr 2
    rw [List.getD_eq_getElem?_getD,List.getD_eq_getElem?_getD,List.getElem?_take_of_lt (by omega)])
   rw [Nat.zero_add];exact this⟩⟩
  have s2:Sl w (.slice p6 N.length c6) N:=⟨_,_,rfl,hc6,fun hz=>by
   obtain ⟨g',e,_,l2,_⟩:=h6 0 hz
   refine ⟨g',0,e,l2,fun k hk j x hx=> ?_⟩
   obtain ⟨g'',e',_,_,k2⟩:=h6 k hk
   rw [e] at e';cases e'
   rw [Nat.zero_add];exact k2 j x hx⟩
  have s3:Sl w (.slice q (n-(i+1)) (c-(i+1))) (L.drop (i+1)):=⟨_,_,by rw [List.length_drop,hN],by rw [List.length_drop];omega,fun hz=>by
   rw [List.length_drop] at hz
   refine ⟨g,(i+1)*6,hq (by omega),nla lg hb.size,fun k hk j x hx=> ?_⟩
   rw [List.length_drop] at hk
   obtain ⟨g',e,_,_,k2⟩:=hw (i+1+k) (by omega)
   cases e
   have:=k2 j x (by
    rw [<- hx]
    congr 2
    rw [List.getD_eq_getElem?_getD,List.getD_eq_getElem?_getD,List.getElem?_drop])
   rw [show (i+1)*6+k*6+j=(i+1+k)*6+j by omega];exact this⟩
  have r:=concat_three _ _ _ _ _ _ _ _ _ (L.take i) N (L.drop (i+1)) b w hbk s1 s2 s3 (by rw [List.length_take];omega) rfl (by rw [List.length_drop,hN]) (by omega)
  refine Calls.mono r ?_
  rintro e w' ⟨⟨p',c',he,k1,k2⟩,hb'⟩
  have e2:wout L pg i=L.take i++N++L.drop (i+1):=by unfold wout;rw [hcut]
  exact ⟨⟨p',c',by rw [he,e2],by rw [e2];exact k1,by rw [e2];exact k2.weak hb.size⟩,hb'⟩
 obtain ⟨q3,hq3,SLt⟩:=sl_tail g n c i (by omega) (by omega)
 have SL3:Hid _:=SLt
 have SL1:Hid (∀ W,_):=fun W=>sl_one g n c i (by omega) (by omega) W
 have SL2:Hid (∀ W,_):=fun W=>sl_head g n c i (by omega) (by omega) W
 have HQ3:Hid (0<n-(i+1)->q3=some ⟨g,(i+1)*6,none⟩):=hq3
 have i64:(i:Int)<=100:=by omega
 have G0:Hid (bc W (W.alloc (.cells #[.int .i64 pg] 3))/\Blk (W.alloc (.cells #[.int .i64 pg] 3)) W.heap.size [.int .i64 pg] 3):=⟨baa,Blk.made _ _ _⟩
 have LG:Hid (i<n/\n<=c):=⟨by omega,by omega⟩
 rw [hN]
 clear h hN hcut hn hh hg hl hc hi cc lg p0 p1 SLt hq3 hL
 go_enter Tryz.func104,Tryz.ntmps104
 go_upto_region 1 with fail
 generalize (W.alloc (.cells #[.int .i64 pg] 3))=W1 at G0 |-
 obtain ⟨b1,hb1⟩: ∃ b1,b1=W.heap.size:=⟨_,rfl⟩
 have G1:Hid (bc W W1/\Blk W1 b1 [.int .i64 pg] 3):=kt1
 rw [<- hb1]
 clear hb1 G0
 go_wp2_with fail
 refine Calls.mono (IC.out b1 _ G1.out.1 (G1.out.2.cell 0) G1.out.2.lt) ?_
 rintro e W2 ⟨rfl,hb2⟩
 have G2:Hid (bc W W2/\Blk W2 b1 [.int .i64 pg] 3):=⟨below_then G1.out.1 hb2,G1.out.2.below hb2⟩
 clear hb2 G1 IC
 go_upto_region 2 with fail
 refine hda (fun cw=>bc W2 cw) (below_drew (Below.refl _ _)) fun hHeld=> ?_
 generalize W2.drew=U at hHeld |-
 refine tma 0 12 rfl ?_
 refine tma 1 13 rfl ?_
 refine tma 2 14 rfl ?_
 refine tla 3 15 ((.int .i64 ((i:Int)+1))) rfl ?_ ?_
 . intro w hSw;(try dsimp only at hSw);go_simp;(try simp);(try (simp only [IntKind.wrap_i64];omega))
 refine tla 4 16 ((.slice (some ⟨g,i*6,none⟩) 1 (c-i))) rfl ?_ ?_
 . intro w hSw;(try dsimp only at hSw);have r:=SL1.out w;(try go_simp);(try simp [*])
 refine tla 5 17 (.int .i64 pg) rfl ?_ ?_
 . intro w hSw;(try dsimp only at hSw);have r:w.cell? ⟨b1,0,none⟩=some (.int .i64 pg):=(G2.out.2.below hSw).cell 0;(try go_simp);(try simp [*])
 refine rda 6 ⟨some 18,_,_,_,_,none⟩ rfl fun K hK=> ?_
 go_simp
 go_wp2_with (go_at_call 103;refine Calls.mono (SC.out _) ?_;rintro e u1 ⟨rfl,hb⟩)
 refine hK.out _ _ (below_then hHeld hb) ?_
 clear hK K hHeld
 intro hHeld
 try simp only [Act.put,zaa,zba,zca]
 refine rda 7 ⟨some 19,_,_,_,_,none⟩ rfl fun K hK=> ?_
 go_simp
 go_wp2_with (go_at_call 78;refine Calls.mono (CC.out _ (below_then G2.out.1 hHeld)) ?_;rintro e u2 ⟨p6,c6,rfl,h6a,h6b,hb⟩)
 have L6:Hid (N.length<=c6/\Re.IsL u2 W.heap.size p6 N):=⟨h6a,h6b⟩
 clear h6a h6b
 refine hK.out _ _ (below_then hHeld hb) ?_
 clear hK K hHeld
 intro hHeld
 try simp only [Act.put,zaa,zba,zca]
 refine tma 8 11 rfl ?_
 refine tma 9 20 rfl ?_
 refine tma 10 21 rfl ?_
 refine tma 11 6 rfl ?_
 refine tma 12 7 rfl ?_
 have KE:Hid (bc W2 u2):=hHeld
 clear hHeld
 refine wpAnyH_done kc ?_ _
 refine NoPanic.normal ?_
 have K3:Hid (bc W u2):=below_then G2.out.1 KE.out
 clear KE
 go_upto_region 3 with fail
 refine hda (fun cw=>bc u2 cw) (below_drew (Below.refl _ _)) fun hHeld=> ?_
 generalize u2.drew=X at hHeld |-
 refine tma 0 22 rfl ?_
 refine tma 1 23 rfl ?_
 refine tla 2 24 ((.slice (some ⟨g,0,none⟩) i c)) rfl ?_ ?_
 . intro w hSw;(try dsimp only at hSw);have r:=SL2.out w;(try go_simp);(try simp [*])
 refine tma 3 25 rfl ?_
 refine tma 4 26 rfl ?_
 refine tma 5 27 rfl ?_
 refine tla 6 28 ((.int .i64 ((i:Int)+1))) rfl ?_ ?_
 . intro w hSw;(try dsimp only at hSw);go_simp;(try simp);(try (simp only [IntKind.wrap_i64];omega))
 refine tla 7 29 ((.slice q3 (n-(i+1)) (c-(i+1)))) rfl ?_ ?_
 . intro w hSw;(try dsimp only at hSw);have r:=SL3.out w;(try go_simp);(try simp [*])
 refine rda 8 ⟨some 30,_,_,_,_,none⟩ rfl fun K hK=> ?_
 have Zqb:Hid (Blk (X.alloc (.cells #[.slice (some ⟨g,0,none⟩) i c,.slice p6 N.length c6,.slice q3 (n-(i+1)) (c-(i+1))] 84)) X.heap.size [.slice (some ⟨g,0,none⟩) i c,.slice p6 N.length c6,.slice q3 (n-(i+1)) (c-(i+1))] 84):=Blk.made _ _ _
 have Nqb:Hid (u2.heap.size<=X.heap.size):=hHeld.size
 go_simp
 refine hK.out _ _ (below_new hHeld _) (fun hHeld2=> ?_)
 clear hK K hHeld
 generalize X.alloc (.cells #[.slice (some ⟨g,0,none⟩) i c,.slice p6 N.length c6,.slice q3 (n-(i+1)) (c-(i+1))] 84)=x1 at hHeld2 Zqb  |-
 generalize X.heap.size=qb at Nqb Zqb |-
 have hHeld:=hHeld2
 clear hHeld2
 try simp only [Act.put,zaa,zba,zca]
 refine rda 9 ⟨some 31,_,_,_,_,none⟩ rfl fun K hK=> ?_
 go_simp
 go_wp2_with (go_at_call 116;refine Calls.mono (TC.out q3 p6 c6 qb _ HQ3.out (below_then K3.out hHeld) (L6.out.2.below hHeld) L6.out.1 Zqb.out) ?_;rintro e x2 ⟨⟨p9,c9,rfl,h9a,h9b⟩,hb⟩)
 have L9:Hid ((wout L pg i).length<=c9/\Re.IsL x2 W.heap.size p9 (wout L pg i)):=⟨h9a,h9b⟩
 clear h9a h9b
 have Zqb:=Zqb.out.below hb
 have Zqb:Hid (Blk x2 qb [.slice (some ⟨g,0,none⟩) i c,.slice p6 N.length c6,.slice q3 (n-(i+1)) (c-(i+1))] 84):=Zqb
 refine hK.out _ _ (below_then hHeld hb) ?_
 clear hK K hHeld
 intro hHeld
 try simp only [Act.put,zaa,zba,zca]
 refine tma 10 4 rfl ?_
 have KE:Hid (bc u2 x2):=hHeld
 clear hHeld
 refine wpAnyH_done kc ?_ _
 refine NoPanic.normal ?_
 have HE:Hid (bc W x2):=below_then K3.out KE.out
 clear KE
 go_wp2_with fail
 go_returns
 exact ⟨⟨p9,c9,rfl,L9.out.1,L9.out.2⟩,HE.out⟩
def raiseE (s:Tr.St):Int:=if s.en=0 then 5 else if s.inn=true then 11 else 0
def raiseS (s:Tr.St) (fa fc:Int):Tr.St:=if raiseE s=0 then ⟨fa,fc,0,0,s.told,s.en,true,fa,fc,s.r0,s.r1,s.r2,s.r3⟩ else s
theorem raise_any (s:Tr.St) (fa fc:Int) (hc:IntKind.u64.wrap fc=fc) (w:World):Calls Tryz.prog 71 #[s.val,.agg #[.int .u64 fa,.int .i64 fc]] w (re (.tuple #[(raiseS s fa fc).val,.int .i64 (raiseE s)]) w):=by
 obtain ⟨r0,r1,r2,r3,t,en,inn,a,c,s0,s1,s2,s3⟩:=s
 by_cases h:en=0
 . subst h
   have e:raiseE ⟨r0,r1,r2,r3,t,0,inn,a,c,s0,s1,s2,s3⟩=5:=if_pos rfl
   unfold raiseS
   rw [e,if_neg (by omega)]
   exact Tr.raise_none r0 r1 r2 r3 t inn a c s0 s1 s2 s3 fa fc w
 . cases inn
   . have e:raiseE ⟨r0,r1,r2,r3,t,en,false,a,c,s0,s1,s2,s3⟩=0:=(if_neg h).trans (if_neg (by simp))
     unfold raiseS
     rw [e,if_pos rfl]
     exact Tr.raise_ok r0 r1 r2 r3 t en a c s0 s1 s2 s3 fa fc fc h hc w
   . have e:raiseE ⟨r0,r1,r2,r3,t,en,true,a,c,s0,s1,s2,s3⟩=11:=(if_neg h).trans (if_pos rfl)
     unfold raiseS
     rw [e,if_neg (by omega)]
     exact Tr.raise_busy r0 r1 r2 r3 t en a c s0 s1 s2 s3 fa fc h w
theorem blk_mid {b:Nat} {t:TypeId} (suf:List Value): ∀ (cs pre C:List Value) (w:World),Blk w b (pre++C++suf) t->C.length=cs.length->Blk (w.setCells b pre.length cs) b (pre++cs++suf) t
 | [], pre, C, w, h, e => by
  have:C=[]:=List.length_eq_zero_iff.1 e
  subst this;exact h
 | v :: r, pre, C, w, h, e => by
  cases C with
  | nil => simp at e
  | cons c C' =>
   rw [World.setCells]
   have h2:=h.set pre.length v
   have e2:(pre++c::C'++suf).set pre.length v=(pre++[v])++C'++suf:=by
    rw [List.append_assoc,List.set_append_right _ _ (Nat.le_refl _)];simp
   rw [e2] at h2
   have:=blk_mid suf r (pre++[v]) C' _ h2 (by simpa using e)
   rw [List.length_append] at this
   simpa using this
theorem setA_id {A:Nat->Option Pr} {i:Nat} {P:Pr} (hA:A i=some P):setA A i (some P)=A:=by
 funext j
 unfold setA
 split
 . rename_i c;rw [c,hA]
 . rfl
theorem Pr.state (P:Pr) {w:World} (S:Tr.St) (h:Blk w P.pb P.enc 88):Blk (w.setCells P.pb 2 (sd1 S.r0 S.r1 S.r2 S.r3 S.told S.en S.inn S.fa S.fc S.s0 S.s1 S.s2 S.s3)) P.pb ({ P with st:=S }:Pr).enc 88 :=
 blk_mid [.slice P.rp P.L.length P.rc,.map (some P.lb),.map (some P.wb)] (sd1 S.r0 S.r1 S.r2 S.r3 S.told S.en S.inn S.fa S.fc S.s0 S.s1 S.s2 S.s3) [.int .i64 P.par,.int .i64 P.k] (sd1 P.st.r0 P.st.r1 P.st.r2 P.st.r3 P.st.told P.st.en P.st.inn P.st.fa P.st.fc P.st.s0 P.st.s1 P.st.s2 P.st.s3) w h rfl
section
variable {O:Nat->Nat} {n:Nat} {W:World} {M:Mb} {Q:Ca.Qu} {T:Nat->Qo.Nd} {root:Int} {I:Nat->Sh.Gr} {A:Nat->Option Pr} {B:Nat->Nat->Int}
theorem Mn.state (h:Mn O n W M Q T root I A B) {i:Nat} {P:Pr} (hi:i<16) (hA:A i=some P) {V':World} (S:Tr.St) (hs:W.heap.size<=V'.heap.size) (hk: ∀ j,j<W.heap.size->j≠P.pb->V'.heap[j]? =W.heap[j]?) (hb:Blk V' P.pb ({ P with st:=S }:Pr).enc 88):Mn O n V' M Q T root I (setA A i (some { P with st:=S })) B:=by
 have q:=h.prs i P hi hA
 have b0:=q.o0;have b1:=q.o1;have b2:=q.o2;have a3:=h.o3
 have kb: ∀ j,O j≠0->O j≠16+8*i->V'.heap[j]? =W.heap[j]? :=fun j h0 h1=>hk j (h.lt j h0) (fun e=>h1 (by rw [e];exact b0))
 refine h.one (P':={ P with st:=S }) hi hA rfl (Nat.le_refl _) hs (fun _ _=>rfl) (fun j h0 h3 h9 hr=>kb j h0 (by omega)) (tree_block h.tre hs (kb _ (by omega) (by omega))) h.goo ?_ (fun c hc=>⟨page_block (h.pag c hc).1 (kb c (by omega) (by omega)),(h.pag c hc).2⟩) (fun j hj=>nla (h.lt j hj) hs)
 exact ⟨hb,list_block q.lis hs fun g eg _ hl=>kb g (by rw [q.o3 g eg hl];omega) (by rw [q.o3 g eg hl];omega),q.cap,q.few,q.led.block (kb _ (by omega) (by omega)),q.way.block (kb _ (by omega) (by omega)),q.wbd,q.con,q.o0,q.o1,q.o2,q.o3⟩
abbrev Kp (W:World) (b:Nat) (V:World):Prop:=Kept (fun j=>j<W.heap.size/\j≠b) W V
theorem Kp.of_below {W V:World} {b:Nat} (h:bc W V):Kp W b V:=kept_of_below h fun j hj=>hj.1
theorem Kp.grown {W V U:World} {b c:Nat} (h:Kp W b V) (hg:V.grownBy U (some c)) (hc:W.heap.size<=c\/c=b):Kp W b U:=h.trans (kept_grown hg fun j hj=>⟨fun e=>by rcases hc with q | q <;> omega,nla hj.1 h.size⟩)
theorem Kp.below {W V U:World} {b:Nat} (h:Kp W b V) (hb:bc V U):Kp W b U:=h.trans (kept_of_below hb fun j hj=>nla hj.1 h.size)
theorem Kp.ko {W V:World} {b:Nat} {O:Nat->Nat} (h:Kp W b V) (hb:O b≠0):Ko O W V:=h.sub fun j hj=>⟨hj.2,fun e=>hb (e ▸ hj.1)⟩
theorem state_info:(Tryz.prog.info? 82).map (·.size)=some 13:=kc
theorem result_info:(Tryz.prog.info? 36).map (·.size)=some 6:=kc
theorem Mn.fault (h:Mn O n W M Q T root I A B) {i:Nat} {P:Pr} (hi:i<16) (hA:A i=some P) (fa fc:Int) (hc:IntKind.u64.wrap fc=fc) :
 Calls Tryz.prog 54 #[pp P.pb,.agg #[.int .u64 fa,.int .i64 fc]] W fun e w'=>e=.returned (.agg (sw 0 0 9 fa fc (raiseE P.st==0)))/\Tx O W (fun O' V=>Mn O' n V M Q T root I (setA A i (some { P with st:=raiseS P.st fa fc })) B) w':=by
 have HM:Hid (Mn O n W M Q T root I A B):=h
 have HP:Hid (IsPr O n i W P):=h.prs i P hi hA
 have HI:Hid (i<16/\A i=some P):=⟨hi,hA⟩
 have RC:Hid (∀ w,Calls Tryz.prog 71 #[P.st.val,.agg #[.int .u64 fa,.int .i64 fc]] w (re (.tuple #[(raiseS P.st fa fc).val,.int .i64 (raiseE P.st)]) w)):=fun w=>raise_any P.st fa fc hc w
 have s1:(W.alloc (.cells #[.int .u64 fa,.int .i64 fc] 34)).heap.size=W.heap.size+1:=World.size_alloc _ _
 have G0:Hid (bc W ((W.alloc (.cells #[.int .u64 fa,.int .i64 fc] 34)).alloc (.cells sl1 36))/\Blk ((W.alloc (.cells #[.int .u64 fa,.int .i64 fc] 34)).alloc (.cells sl1 36)) W.heap.size [.int .u64 fa,.int .i64 fc] 34/\Blk ((W.alloc (.cells #[.int .u64 fa,.int .i64 fc] 34)).alloc (.cells sl1 36)) (W.heap.size+1) sm1 36):=by
  have b2:bc (W.alloc (.cells #[.int .u64 fa,.int .i64 fc] 34)) ((W.alloc (.cells #[.int .u64 fa,.int .i64 fc] 34)).alloc (.cells sl1 36)):=baa
  refine ⟨below_then baa b2,(Blk.made _ _ _).below b2,?_⟩
  rw [<- s1];exact Blk.made _ _ _
 obtain ⟨S,hS⟩: ∃ S,raiseS P.st fa fc=S:=⟨_,rfl⟩
 obtain ⟨E,hE⟩: ∃ E,raiseE P.st=E:=⟨_,rfl⟩
 rw [hS,hE] at RC
 rw [hS,hE]
 have HS:Hid (raiseS P.st fa fc=S/\raiseE P.st=E):=⟨hS,hE⟩
 clear hS hE
 clear h hA hi hc s1
 go_enter Tryz.func54,Tryz.ntmps54
 go_upto_region 1 with fail
 generalize ((W.alloc (.cells #[.int .u64 fa,.int .i64 fc] 34)).alloc (.cells sl1 36))=V2 at G0 |-
 obtain ⟨b2,hb2⟩: ∃ b2,b2=W.heap.size+1:=⟨_,rfl⟩
 obtain ⟨b1,hb1⟩: ∃ b1,b1=W.heap.size:=⟨_,rfl⟩
 have G1:Hid (bc W V2/\Blk V2 b1 [.int .u64 fa,.int .i64 fc] 34/\Blk V2 b2 sm1 36):=ku1
 have NB:Hid (W.heap.size<=b1/\W.heap.size<=b2/\b1≠b2/\b2<V2.heap.size):=⟨by omega,by omega,by omega,G1.out.2.2.lt⟩
 rw [<- hb2,<- hb1]
 clear hb1 hb2 G0
 have x0:V2.cell? ⟨b1,0,none⟩=some (.int .u64 fa):=G1.out.2.1.cell 0
 have x1:V2.cell? ⟨b1,1,none⟩=some (.int .i64 fc):=G1.out.2.1.cell 1
 go_upto_region 2 with fail
 have G3:Hid (bc W (V2.alloc (.cells (sw 0 0 9 fa fc false) 36))/\Blk (V2.alloc (.cells (sw 0 0 9 fa fc false) 36)) b1 [.int .u64 fa,.int .i64 fc] 34/\Blk (V2.alloc (.cells (sw 0 0 9 fa fc false) 36)) b2 sm1 36/\Blk (V2.alloc (.cells (sw 0 0 9 fa fc false) 36)) V2.heap.size (sx 0 0 9 fa fc false) 36/\Blk (V2.alloc (.cells (sw 0 0 9 fa fc false) 36)) P.pb P.enc 88):=by
  have b3:bc V2 (V2.alloc (.cells (sw 0 0 9 fa fc false) 36)):=baa
  exact ⟨below_then G1.out.1 b3,G1.out.2.1.below b3,G1.out.2.2.below b3,Blk.made _ _ _,(HP.out.pro.below G1.out.1).below b3⟩
 clear x0 x1
 generalize (V2.alloc (.cells (sw 0 0 9 fa fc false) 36))=V3 at G3 |-
 obtain ⟨b3,hb3⟩: ∃ b3,b3=V2.heap.size:=⟨_,rfl⟩
 have NC:Hid (b2≠b3/\W.heap.size<=b3):=⟨by have:=NB.out;omega,by have:=G1.out.1.size;omega⟩
 have G4:Hid (bc W V3/\Blk V3 b1 [.int .u64 fa,.int .i64 fc] 34/\Blk V3 b2 sm1 36/\Blk V3 b3 (sx 0 0 9 fa fc false) 36/\Blk V3 P.pb P.enc 88):=by rw [hb3];exact G3.out
 rw [<- hb3]
 clear hb3 G3 G1
 go_cut [6,7] (fun v u V=> ∃ q:Nat,v=.pointer (some ⟨q,0,none⟩)/\u=.int .i64 E/\Hid (Blk V q (sd1 S.r0 S.r1 S.r2 S.r3 S.told S.en S.inn S.fa S.fc S.s0 S.s1 S.s2 S.s3) 82/\V3.heap.size<=q/\bc V3 V))
 case first =>
  refine hda (fun cw=>bc V3 cw) (below_drew (Below.refl _ _)) fun hHeld=> ?_
  generalize V3.drew=U at hHeld |-
  refine tma 0 11 rfl ?_
  refine tma 1 12 rfl ?_
  refine tma 2 13 rfl ?_
  refine tla 3 14 P.st.val rfl ?_ ?_
  . intro w hSw;(try dsimp only at hSw);have q:=G4.out.2.2.2.2.below hSw;have r0:w.cell? ⟨P.pb,2,none⟩=some (.int .u64 P.st.r0):=q.cell 2;have r1:w.cell? ⟨P.pb,3,none⟩=some (.int .u64 P.st.r1):=q.cell 3;have r2:w.cell? ⟨P.pb,4,none⟩=some (.int .u64 P.st.r2):=q.cell 4;have r3:w.cell? ⟨P.pb,5,none⟩=some (.int .u64 P.st.r3):=q.cell 5;have r4:w.cell? ⟨P.pb,6,none⟩=some (.int .i64 P.st.told):=q.cell 6;have r5:w.cell? ⟨P.pb,7,none⟩=some (.int .u64 P.st.en):=q.cell 7;have r6:w.cell? ⟨P.pb,8,none⟩=some (.bool P.st.inn):=q.cell 8;have r7:w.cell? ⟨P.pb,9,none⟩=some (.int .u64 P.st.fa):=q.cell 9;have r8:w.cell? ⟨P.pb,10,none⟩=some (.int .i64 P.st.fc):=q.cell 10;have r9:w.cell? ⟨P.pb,11,none⟩=some (.int .u64 P.st.s0):=q.cell 11;have r10:w.cell? ⟨P.pb,12,none⟩=some (.int .u64 P.st.s1):=q.cell 12;have r11:w.cell? ⟨P.pb,13,none⟩=some (.int .u64 P.st.s2):=q.cell 13;have r12:w.cell? ⟨P.pb,14,none⟩=some (.int .u64 P.st.s3):=q.cell 14;(try go_simp);(try simp [*])
  refine tla 4 15 (.agg #[.int .u64 fa,.int .i64 fc]) rfl ?_ ?_
  . intro w hSw;(try dsimp only at hSw);have q:=G4.out.2.1.below hSw;have r0:w.cell? ⟨b1,0,none⟩=some (.int .u64 fa):=q.cell 0;have r1:w.cell? ⟨b1,1,none⟩=some (.int .i64 fc):=q.cell 1;(try go_simp);(try simp [*])
  refine wpAnyH_ready (rs:=[5,9]) kc (by simp) ?_
  refine AllReadyH.cons (o:=⟨some 16,_,_,_,_,none⟩) rfl (fun K hK=> ?_) (AllReadyH.cons (o:=⟨some 6,_,_,_,_,none⟩) rfl (fun K hK=> ?_) AllReadyH.nil)
  . go_simp
    go_wp2_with (go_at_call 71;refine Calls.mono (RC.out _) ?_;rintro e u1 ⟨rfl,hb⟩)
    refine hK.out _ _ (below_then hHeld hb) ?_
    clear hK K hHeld
    intro hHeld
    try simp only [Act.put,zaa,zba,zca]
    refine tma 6 10 rfl ?_
    refine tma 7 17 rfl ?_
    refine tma 8 18 rfl ?_
    refine rda 9 ⟨some 6,_,_,_,_,none⟩ rfl fun K hK=> ?_
    have Zqb:Hid (Blk (u1.alloc (.cells sy1 82)) u1.heap.size sz1 82):=Blk.made _ _ _
    have Nqb:Hid (V3.heap.size<=u1.heap.size):=hHeld.size
    go_simp
    refine hK.out _ _ (below_new hHeld _) (fun hHeld2=> ?_)
    clear hK K hHeld
    generalize u1.alloc (.cells sy1 82)=u2 at hHeld2 Zqb  |-
    generalize u1.heap.size=qb at Nqb Zqb |-
    have hHeld:=hHeld2
    clear hHeld2
    try simp only [Act.put,zaa,zba,zca]
    refine rda 10 ⟨none,_,_,_,_,none⟩ rfl fun K hK=> ?_
    refine wanted_mp rfl ?_
    have th:u2.there qb 0 13:=Zqb.out.there
    refine wp_store_mid _ _ _ rfl qb 0 (sc1 S.r0 S.r1 S.r2 S.r3 S.told S.en S.inn S.fa S.fc S.s0 S.s1 S.s2 S.s3) rfl rfl th kc kq1 ?_
    (try simp only [List.toList_toArray])
    have Fqb:Hid (Blk (u2.setCells qb 0 (sd1 S.r0 S.r1 S.r2 S.r3 S.told S.en S.inn S.fa S.fc S.s0 S.s1 S.s2 S.s3)) qb (sd1 S.r0 S.r1 S.r2 S.r3 S.told S.en S.inn S.fa S.fc S.s0 S.s1 S.s2 S.s3) 82):=Blk.put Zqb.out rfl
    have KS:Hid (bc V3 (u2.setCells qb 0 (sd1 S.r0 S.r1 S.r2 S.r3 S.told S.en S.inn S.fa S.fc S.s0 S.s1 S.s2 S.s3))):=below_put hHeld Nqb.out _
    generalize u2.setCells qb 0 (sd1 S.r0 S.r1 S.r2 S.r3 S.told S.en S.inn S.fa S.fc S.s0 S.s1 S.s2 S.s3)=u3 at Fqb KS |-
    clear th
    refine hK.out _ _ KS.out ?_
    clear hK K hHeld
    intro hHeld
    try simp only [Act.put,zaa,zba,zca]
    refine tma 11 7 rfl ?_
    have KE:Hid (bc V3 u3):=hHeld
    clear hHeld
    refine wpAnyH_done kc ?_ _
    refine NoPanic.normal ?_
    go_wp2_with fail
    go_meet
    exact ⟨qb,rfl,rfl,Fqb.out,Nqb.out,KE.out⟩
  . have Zqb:Hid (Blk (U.alloc (.cells sy1 82)) U.heap.size sz1 82):=Blk.made _ _ _
    have Nqb:Hid (V3.heap.size<=U.heap.size):=hHeld.size
    go_simp
    refine hK.out _ _ (below_new hHeld _) (fun hHeld2=> ?_)
    clear hK K hHeld
    generalize U.alloc (.cells sy1 82)=u1 at hHeld2 Zqb  |-
    generalize U.heap.size=qb at Nqb Zqb |-
    have hHeld:=hHeld2
    clear hHeld2
    try simp only [Act.put,zaa,zba,zca]
    refine rda 5 ⟨some 16,_,_,_,_,none⟩ rfl fun K hK=> ?_
    go_simp
    go_wp2_with (go_at_call 71;refine Calls.mono (RC.out _) ?_;rintro e u2 ⟨rfl,hb⟩)
    have Zqb:=Zqb.out.below hb
    have Zqb:Hid (Blk u2 qb sz1 82):=Zqb
    refine hK.out _ _ (below_then hHeld hb) ?_
    clear hK K hHeld
    intro hHeld
    try simp only [Act.put,zaa,zba,zca]
    refine tma 6 10 rfl ?_
    refine tma 7 17 rfl ?_
    refine tma 8 18 rfl ?_
    refine rda 10 ⟨none,_,_,_,_,none⟩ rfl fun K hK=> ?_
    refine wanted_mp rfl ?_
    have th:u2.there qb 0 13:=Zqb.out.there
    refine wp_store_mid _ _ _ rfl qb 0 (sc1 S.r0 S.r1 S.r2 S.r3 S.told S.en S.inn S.fa S.fc S.s0 S.s1 S.s2 S.s3) rfl rfl th kc kq1 ?_
    (try simp only [List.toList_toArray])
    have Fqb:Hid (Blk (u2.setCells qb 0 (sd1 S.r0 S.r1 S.r2 S.r3 S.told S.en S.inn S.fa S.fc S.s0 S.s1 S.s2 S.s3)) qb (sd1 S.r0 S.r1 S.r2 S.r3 S.told S.en S.inn S.fa S.fc S.s0 S.s1 S.s2 S.s3) 82):=Blk.put Zqb.out rfl
    have KS:Hid (bc V3 (u2.setCells qb 0 (sd1 S.r0 S.r1 S.r2 S.r3 S.told S.en S.inn S.fa S.fc S.s0 S.s1 S.s2 S.s3))):=below_put hHeld Nqb.out _
    generalize u2.setCells qb 0 (sd1 S.r0 S.r1 S.r2 S.r3 S.told S.en S.inn S.fa S.fc S.s0 S.s1 S.s2 S.s3)=u3 at Fqb KS |-
    clear th
    refine hK.out _ _ KS.out ?_
    clear hK K hHeld
    intro hHeld
    try simp only [Act.put,zaa,zba,zca]
    refine tma 11 7 rfl ?_
    have KE:Hid (bc V3 u3):=hHeld
    clear hHeld
    refine wpAnyH_done kc ?_ _
    refine NoPanic.normal ?_
    go_wp2_with fail
    go_meet
    exact ⟨qb,rfl,rfl,Fqb.out,Nqb.out,KE.out⟩
 case rest =>
  obtain ⟨q,rfl,rfl,hq⟩:=hcut
  have HQ:Hid (Blk wc q (sd1 S.r0 S.r1 S.r2 S.r3 S.told S.en S.inn S.fa S.fc S.s0 S.s1 S.s2 S.s3) 82/\V3.heap.size<=q):=⟨hq.out.1,hq.out.2.1⟩
  have G5:Hid (Kp W P.pb wc/\Blk wc b2 sm1 36/\Blk wc b3 (sx 0 0 9 fa fc false) 36/\Blk wc P.pb P.enc 88):=⟨(Kp.of_below G4.out.1).below hq.out.2.2,G4.out.2.2.1.below hq.out.2.2,G4.out.2.2.2.1.below hq.out.2.2,G4.out.2.2.2.2.below hq.out.2.2⟩
  have PL:Hid (P.pb<W.heap.size/\O P.pb≠0):=⟨HP.out.pro.lt,by rw [HP.out.o0];omega⟩
  clear hq G4 RC
  by_cases cE:E=0
  . subst cE
    go_upto_region 4 with fail
    refine wp_region_lit ?_
    iterate 3 go_step
    refine Tr.load_pat q 0 (sd1 S.r0 S.r1 S.r2 S.r3 S.told S.en S.inn S.fa S.fc S.s0 S.s1 S.s2 S.s3) _ rfl HQ.out.1.range Tryz.underlying82 rfl state_info ?_
    iterate 6 go_step
    refine Tr.store_pat P.pb 2 (sc1 S.r0 S.r1 S.r2 S.r3 S.told S.en S.inn S.fa S.fc S.s0 S.s1 S.s2 S.s3) rfl rfl (fun j hj=>by have:=G5.out.2.2.2.there (2+j) (by have:j<13:=hj;show 2+j<18;omega);rwa [Nat.zero_add] at this) state_info kq1 ?_
    have X5:Hid (Blk (wc.setCells P.pb 2 ((sc1 S.r0 S.r1 S.r2 S.r3 S.told S.en S.inn S.fa S.fc S.s0 S.s1 S.s2 S.s3):Array Value).toList) P.pb ({ P with st:=S }:Pr).enc 88):=P.state S G5.out.2.2.2
    have GK:=grown_setCells P.pb ((sc1 S.r0 S.r1 S.r2 S.r3 S.told S.en S.inn S.fa S.fc S.s0 S.s1 S.s2 S.s3):Array Value).toList 2 wc
    generalize wc.setCells P.pb 2 ((sc1 S.r0 S.r1 S.r2 S.r3 S.told S.en S.inn S.fa S.fc S.s0 S.s1 S.s2 S.s3):Array Value).toList=V5 at X5 GK |-
    have R2:Hid (Blk V5 b2 sm1 36):=(GK.block _ G5.out.2.1.lt (fun e=>by have:=sia e;have:=PL.out;have:=NB.out;omega)).trans G5.out.2.1
    have R3:Hid (Blk V5 b3 (sx 0 0 9 fa fc false) 36):=(GK.block _ G5.out.2.2.1.lt (fun e=>by have:=sia e;have:=PL.out;have:=NC.out;omega)).trans G5.out.2.2.1
    have K5:Hid (Kp W P.pb V5):=G5.out.1.grown GK (Or.inr rfl)
    clear GK G5 HQ
    have y5:V5.cell? ⟨b3,5,none⟩=some (.bool false):=R3.out.cell 5
    have z5:V5.frozen? ⟨b3,5,none⟩=false:=R3.out.free 5
    go_upto_region 6 with fail
    have HB:=R3.out.set 5 (.bool true)
    have GK:=grown_setCell1 V5 b3 5 (.bool true)
    generalize V5.setCell ⟨b3,5,none⟩ (.bool true)=V6 at HB GK |-
    have R2:Hid (Blk V6 b2 sm1 36):=(GK.block _ R2.out.lt (fun e=>NC.out.1 (sia e))).trans R2.out
    have K6:Hid (Kp W P.pb V6):=K5.out.grown GK (Or.inl NC.out.2)
    have X6:Hid (Blk V6 P.pb ({ P with st:=S }:Pr).enc 88):=(GK.block _ X5.out.lt (fun e=>by have:=sia e;have:=PL.out;have:=NC.out;omega)).trans X5.out
    have R3:Hid (Blk V6 b3 (sx 0 0 9 fa fc true) 36):=HB
    clear GK HB K5 X5 y5 z5
    refine wp_region_lit ?_
    refine Tr.load_pat b3 0 (sx 0 0 9 fa fc true) _ rfl R3.out.range Tryz.underlying36 rfl result_info ?_
    refine Tr.store_pat b2 0 (sw 0 0 9 fa fc true) rfl rfl R2.out.there result_info kq1 ?_
    have R4:Hid (Blk (V6.setCells b2 0 ((sw 0 0 9 fa fc true):Array Value).toList) b2 (sx 0 0 9 fa fc true) 36):=R2.out.put rfl
    have GK:=grown_setCells b2 ((sw 0 0 9 fa fc true):Array Value).toList 0 V6
    generalize V6.setCells b2 0 ((sw 0 0 9 fa fc true):Array Value).toList=V7 at R4 GK |-
    have K7:Hid (Kp W P.pb V7):=K6.out.grown GK (Or.inl NB.out.2.1)
    have X7:Hid (Blk V7 P.pb ({ P with st:=S }:Pr).enc 88):=(GK.block _ X6.out.lt (fun e=>by have:=sia e;have:=PL.out;have:=NB.out;omega)).trans X6.out
    clear GK K6 X6
    go_wp2_with fail
    have LV:(loadVar 36 ⟨b2,0,none⟩).run Tryz.prog V7=.ok (.agg (sw 0 0 9 fa fc true)) V7:=run_loadVar_mid (P:=Tryz.prog) _ b2 0 36 (sx 0 0 9 fa fc true) _ R4.out.range Tryz.underlying36 rfl kc
    refine bodyPost_ret (v:=.agg (sw 0 0 9 fa fc true)) (results_one Tryz.results54 _ _ _ ⟨b2,0,none⟩ _ rfl LV) rfl ?_
    exact ⟨rfl,O,HM.out.state HI.out.1 HI.out.2 S K7.out.size (fun j hj hn=>K7.out.block j ⟨hj,hn⟩) X7.out,fun _ _=>rfl,fun j hj=>nla (HM.out.lt j hj) K7.out.size,K7.out.ko PL.out.2⟩
  . have d1:(E==0)=false:=by simp [cE]
    go_upto_region 6 with fail
    have R2:=G5.out.2.1
    have R3:=G5.out.2.2.1
    have R2:Hid (Blk wc b2 sm1 36):=R2
    have R3:Hid (Blk wc b3 (sx 0 0 9 fa fc false) 36):=R3
    have K6:Hid (Kp W P.pb wc):=G5.out.1
    have X6:Hid (Blk wc P.pb P.enc 88):=G5.out.2.2.2
    clear G5 HQ
    refine wp_region_lit ?_
    refine Tr.load_pat b3 0 (sx 0 0 9 fa fc false) _ rfl R3.out.range Tryz.underlying36 rfl result_info ?_
    refine Tr.store_pat b2 0 (sw 0 0 9 fa fc false) rfl rfl R2.out.there result_info kq1 ?_
    have R4:Hid (Blk (wc.setCells b2 0 ((sw 0 0 9 fa fc false):Array Value).toList) b2 (sx 0 0 9 fa fc false) 36):=R2.out.put rfl
    have GK:=grown_setCells b2 ((sw 0 0 9 fa fc false):Array Value).toList 0 wc
    generalize wc.setCells b2 0 ((sw 0 0 9 fa fc false):Array Value).toList=V7 at R4 GK |-
    have K7:Hid (Kp W P.pb V7):=K6.out.grown GK (Or.inl NB.out.2.1)
    have X7:Hid (Blk V7 P.pb P.enc 88):=(GK.block _ X6.out.lt (fun e=>by have:=sia e;have:=PL.out;have:=NB.out;omega)).trans X6.out
    clear GK K6 X6
    go_wp2_with fail
    have LV:(loadVar 36 ⟨b2,0,none⟩).run Tryz.prog V7=.ok (.agg (sw 0 0 9 fa fc false)) V7:=run_loadVar_mid (P:=Tryz.prog) _ b2 0 36 (sx 0 0 9 fa fc false) _ R4.out.range Tryz.underlying36 rfl kc
    refine bodyPost_ret (v:=.agg (sw 0 0 9 fa fc false)) (results_one Tryz.results54 _ _ _ ⟨b2,0,none⟩ _ rfl LV) rfl ?_
    have SE:S=P.st:=by
     have q:=HS.out.1
     unfold raiseS at q
     rw [HS.out.2,if_neg cE] at q
     exact q.symm
    subst SE
    exact ⟨by rw [d1],O,HM.out.state HI.out.1 HI.out.2 P.st K7.out.size (fun j hj hn=>K7.out.block j ⟨hj,hn⟩) X7.out,fun _ _=>rfl,fun j hj=>nla (HM.out.lt j hj) K7.out.size,K7.out.ko PL.out.2⟩
theorem giveBack_none {W:World} (mb:Nat) (gf gp d a:Int) (gw:Bool):Calls Tryz.prog 88 #[pp mb,.agg (sb1 gf gp d gw false a)] W (re (.tuple #[]) W):=by
 have hb:Hid (bc W (W.alloc (.cells (sb1 gf gp d gw false a) 55))):=baa
 go_enter Tryz.func88,Tryz.ntmps88
 go_wp2_with fail
 go_returns
 exact ⟨rfl,hb.out⟩
theorem setA_set (A:Nat->Option Pr) (i:Nat) (P P':Option Pr):setA (setA A i P) i P'=setA A i P':=by
 funext j;unfold setA;split <;> rfl
structure Given (P:Pr) (a:Int) (i:Nat):Prop where
 a0:0<=a
 a1:a<34359738368
 way:Wayed P.G a
 lt:i<P.L.length
 has:hasR (P.L.getD i Re.Rg.zero) a=true
 fst: ∀ j,j<i->hasR (P.L.getD j Re.Rg.zero) a=false
 good:Re.goodB [P.L.getD i Re.Rg.zero]=true
 cut:(cutR (P.L.getD i Re.Rg.zero) a).length<=3
 few:(wout P.L a i).length<=100
theorem Mn.giveBack (h:Mn O n W M Q T root I A B) {d:Nat} {P:Pr} (hd:d<16) (hA:A d=some P) (gf gp a:Int) (gw:Bool) (i:Nat) (hG:Given P a i) (hn:n<900000000000) :
 Calls Tryz.prog 88 #[pp M.mb,.agg (sb1 gf gp d gw true a)] W fun e w'=>e=.returned (.tuple #[])/\ ∃ p' c',Tx O W (fun O' V=>Mn O' (n+6) V M Q (Qo.creditT T P.k (costD 0 (a / 512) (a / 262144) (a / 134217728) P.G 3)) root I (setA A d (some { { P with F:=put P.F a none,G:=(sinkN (a / 512) (a / 262144) (a / 134217728) P.G 3) } with rp:=p',rc:=c',L:=wout P.L a i })) B) w':=by
 have HM:Hid (Mn O n W M Q T root I A B):=h
 have HI:Hid (d<16/\A d=some P):=⟨hd,hA⟩
 have HG:Hid (Given P a i):=hG
 have UC:Hid (∀ w,bc W w->Calls Tryz.prog 81 #[pp M.mb,pp P.pb,.int .i64 a,.int .i64 1] w fun e w'=>e=.returned (.tuple #[])/\Mn O (n+6) w' M Q (Qo.creditT T P.k (costD 0 (a / 512) (a / 262144) (a / 134217728) P.G 3)) root I (setA A d (some { P with F:=put P.F a none,G:=(sinkN (a / 512) (a / 262144) (a / 134217728) P.G 3) })) B/\Ko O w w'):=fun w hb=>(HM.out.below hb).unlead hd hA a hG.a0 hG.a1 1 0 (Or.inr ⟨rfl,rfl⟩) hn hG.way
 have WC:Hid (∀ w,Re.IsL w 0 P.rp P.L->Calls Tryz.prog 104 #[.slice P.rp P.L.length P.rc,.int .i64 a] w fun e w'=>(∃ p' c',e=.returned (.slice p' (wout P.L a i).length c')/\(wout P.L a i).length<=c'/\Re.IsL w' w.heap.size p' (wout P.L a i))/\bc w w'):=fun w hw=>without_ok P.rp P.rc P.L (h.prs d P hd hA).few (h.prs d P hd hA).cap a hG.a0 hG.a1 i hG.lt hG.has hG.fst hG.good hG.cut w hw
 have G0:Hid (bc W (W.alloc (.cells (sb1 gf gp d gw true a) 55))/\Blk (W.alloc (.cells (sb1 gf gp d gw true a) 55)) W.heap.size (sa1 gf gp d gw true a) 55):=⟨baa,Blk.made _ _ _⟩
 clear h hd hA hG hn
 go_enter Tryz.func88,Tryz.ntmps88
 go_upto_region 1 with fail
 generalize (W.alloc (.cells (sb1 gf gp d gw true a) 55))=W1 at G0 |-
 obtain ⟨b1,hb1⟩: ∃ b1,b1=W.heap.size:=⟨_,rfl⟩
 have G1:Hid (bc W W1/\Blk W1 b1 (sa1 gf gp d gw true a) 55):=kt1
 have NB:Hid (W.heap.size<=b1):=ks
 rw [<- hb1]
 clear hb1 G0
 have x4:W1.cell? ⟨b1,4,none⟩=some (.bool true):=G1.out.2.cell 4
 go_upto_region 2 with fail
 clear x4
 refine hda (fun cw=>bc W1 cw) (below_drew (Below.refl _ _)) fun hHeld=> ?_
 generalize W1.drew=U at hHeld |-
 refine tma 0 8 rfl ?_
 refine tma 1 9 rfl ?_
 refine tma 2 10 rfl ?_
 refine tla 3 11 ((.map (some M.pm))) rfl ?_ ?_
 . exact kv1
 refine tma 4 12 rfl ?_
 refine tla 5 13 (.int .i64 d) rfl ?_ ?_
 . intro w hSw;(try dsimp only at hSw);have r:w.cell? ⟨b1,2,none⟩=some (.int .i64 d):=(G1.out.2.below hSw).cell 2;(try go_simp);(try simp [*])
 refine tla 6 14 (pp P.pb) rfl ?_ ?_
 . intro w hSw;(try dsimp only at hSw);have r:=(HM.out.below (below_then G1.out.1 hSw)).proc HI.out.1 HI.out.2;(try go_simp);(try simp [*])
 refine tma 7 4 rfl ?_
 have KE:Hid (bc W1 U):=hHeld
 clear hHeld
 refine wpAnyH_done kc ?_ _
 refine NoPanic.normal ?_
 have G3:Hid (bc W U/\Blk U b1 (sa1 gf gp d gw true a) 55):=⟨below_then G1.out.1 KE.out,G1.out.2.below KE.out⟩
 clear KE G1
 have x5:U.cell? ⟨b1,5,none⟩=some (.int .i64 a):=G3.out.2.cell 5
 go_wp2_with fail
 refine Calls.mono (UC.out _ G3.out.1) ?_
 rintro e u ⟨rfl,hm,hk⟩
 have OB:Hid (O b1=0):=bca fun hh=>by have:=HM.out.lt b1 hh;have:=NB.out;omega
 have M4:Hid (Mn O (n+6) u M Q (Qo.creditT T P.k (costD 0 (a / 512) (a / 262144) (a / 134217728) P.G 3)) root I (setA A d (some { P with F:=put P.F a none,G:=(sinkN (a / 512) (a / 262144) (a / 134217728) P.G 3) })) B):=hm
 have K4:Hid (Ko O W u/\W.heap.size<=u.heap.size):=⟨(Ko.of_below G3.out.1).trans (hk.sub fun j hj=>⟨hj.1,nla hj.2 G3.out.1.size⟩),Nat.le_trans G3.out.1.size hk.size⟩
 have B4:Hid (Blk u b1 (sa1 gf gp d gw true a) 55):=hk.blk G3.out.2 OB.out
 clear x5 G3 hm hk UC
 have PR:Hid (IsPr O (n+6) d u { P with F:=put P.F a none,G:=(sinkN (a / 512) (a / 262144) (a / 134217728) P.G 3) }):=M4.out.prs d _ HI.out.1 (setA_same _ _ _)
 have x5:u.cell? ⟨b1,5,none⟩=some (.int .i64 a):=B4.out.cell 5
 have c15:u.cell? ⟨P.pb,15,none⟩=some (.slice P.rp P.L.length P.rc):=PR.out.pro.cell 15
 have lp:P.pb<u.heap.size:=PR.out.pro.lt
 have lb:b1<u.heap.size:=B4.out.lt
 go_upto_region 4 with fail
 go_region_with (refine Calls.mono (WC.out _ (PR.out.lis.below (below_drew (Below.refl _ _)))) ?_;rintro e u2 ⟨⟨p',c',rfl,h1,h2⟩,hb2⟩;have K5:Hid ((wout P.L a i).length<=c'/\Re.IsL u2 u.heap.size p' (wout P.L a i)/\bc u u2):=⟨h1,h2,below_then (below_drew (Below.refl _ _)) hb2⟩;have z15:u2.frozen? ⟨P.pb,15,none⟩=false:=(PR.out.pro.below K5.out.2.2).free 15;have y15:u2.cell? ⟨P.pb,15,none⟩=some (.slice P.rp P.L.length P.rc):=(PR.out.pro.below K5.out.2.2).cell 15;clear h1 h2 hb2)
 all_goals have HE:=M4.out.list HI.out.1 (setA_same _ _ _) K5.out.2.2 K5.out.2.1 K5.out.1 HG.out.few
 all_goals rw [setA_set] at HE
 all_goals have HF:Hid _:=HE
 all_goals clear HE
 all_goals go_wp2_with fail
 all_goals go_returns
 all_goals
  obtain ⟨O',m1,m2,m3⟩:=HF.out
  exact ⟨rfl,p',c',O',m1,fun j hj=>m2 j (nla hj K4.out.2),m1.lt,K4.out.1.trans (m3.sub fun j hj=>⟨hj.1,nla hj.2 K4.out.2⟩)⟩
def bor1 (f t:Int) (r:Re.Rg):Bool:=(r.kd==1) && decide (0<r.len f t)
def borB (L:List Re.Rg) (f t:Int):Bool:=L.any (bor1 f t)
theorem bor_yes {L:List Re.Rg} {f t:Int} {k:Nat} (hk:k<L.length) (h:bor1 f t (L.getD k Re.Rg.zero)=true):borB L f t=true:=by
 unfold borB
 rw [List.any_eq_true]
 refine ⟨_,?_,h⟩
 rw [List.getD_eq_getElem?_getD,List.getElem?_eq_getElem hk]
 exact List.getElem_mem hk
theorem bor_no {L:List Re.Rg} {f t:Int} (h: ∀ k,k<L.length->bor1 f t (L.getD k Re.Rg.zero)=false):borB L f t=false:=by
 unfold borB
 rw [List.any_eq_false]
 intro x hx
 obtain ⟨k,hk,e⟩:=List.mem_iff_getElem.1 hx
 have:=h k hk
 rw [List.getD_eq_getElem?_getD,List.getElem?_eq_getElem hk,Option.getD_some,e] at this
 simp [this]
theorem isl_one {w:World} {g:Nat} {r:Re.Rg} (h:Blk w g r.enc 126):Re.IsL w 0 (some ⟨g,0,none⟩) [r]:=fun i hi=>by
 have:i=0:=by simpa using hi
 subst this
 exact ⟨g,rfl,Nat.zero_le _,h.lt,fun j x hx=>by
  have q:=h.cell j
  rw [show 0*6+j=j by omega,q];exact hx⟩
theorem borrows_any {O:Nat->Nat} {n i:Nat} {W:World} {P:Pr} (h:IsPr O n i W P) (hN:Re.NumL P.L) (f t:Int) :
 Calls Tryz.prog 79 #[pp P.pb,.agg #[.int .i64 f,.int .i64 t]] W (re (.bool (borB P.L f t)) W):=by
 obtain ⟨m,hm⟩: ∃ m,P.L.length=m:=⟨_,rfl⟩
 obtain ⟨p0,hp0⟩: ∃ p0,p0=P.rp:=⟨_,rfl⟩
 have c15:W.cell? ⟨P.pb,15,none⟩=some (.slice p0 m P.rc):=by rw [<- hm,hp0];exact h.pro.cell 15
 have few:m<=100:=by rw [<- hm];exact h.few
 have lp:P.pb<W.heap.size:=h.pro.lt
 have HL:Hid (Re.IsL W 0 p0 P.L/\P.L.length=m/\Re.NumL P.L):=⟨by rw [hp0];exact h.lis,hm,hN⟩
 clear h hm hN hp0
 have G0:Hid (bc W (W.alloc (.cells #[.int .i64 f,.int .i64 t] 66))/\Blk (W.alloc (.cells #[.int .i64 f,.int .i64 t] 66)) W.heap.size [.int .i64 f,.int .i64 t] 66):=⟨baa,Blk.made _ _ _⟩
 go_enter Tryz.func79,Tryz.ntmps79
 go_upto_region 1 with fail
 have c15':(W.alloc (.cells #[.int .i64 f,.int .i64 t] 66)).cell? ⟨P.pb,15,none⟩=some (.slice p0 m P.rc):=by rw [G0.out.1.cell (p:=⟨P.pb,15,none⟩) lp];exact c15
 generalize (W.alloc (.cells #[.int .i64 f,.int .i64 t] 66))=W1 at G0 c15' |-
 obtain ⟨b1,hb1⟩: ∃ b1,b1=W.heap.size:=⟨_,rfl⟩
 have G1:Hid (bc W W1/\Blk W1 b1 [.int .i64 f,.int .i64 t] 66):=kt1
 rw [<- hb1]
 clear hb1 G0 c15 lp
 go_wp2_with fail
 go_loopw [12] (fun x V=> ∃ k:Nat,k<=m/\x=.int .i64 (k:Nat)/\Hid (bc W1 V/\ ∀ j,j<k->bor1 f t (P.L.getD j Re.Rg.zero)=false)) (fun x _=>m-(intOf x).toNat)
 case atStart=>exact ⟨0,by omega,rfl,Below.refl _ _,fun j hj=>absurd hj (Nat.not_lt_zero _)⟩
 case round =>
  obtain ⟨k,hk,rfl,hst⟩:=hrel
  have ww:IntKind.i64.wrap ((k:Int)+1)=((k+1:Nat):Int):=km1
  by_cases hlt:k<m
  . have hd:decide ((k:Int)<(m:Int))=true:=by simp;omega
    obtain ⟨l,hl⟩: ∃ l,P.L.getD k Re.Rg.zero=l:=⟨_,rfl⟩
    have L1:Re.IsL wr 0 p0 P.L:=(HL.out.1.below G1.out.1).below hst.out.1
    obtain ⟨g,rfl,_,lg,cc⟩:=L1 k (by rw [HL.out.2.1];exact hlt)
    have nl:=HL.out.2.2 k (by rw [HL.out.2.1];exact hlt)
    rw [hl] at cc nl
    obtain ⟨rf,rt,ra,rb,rcc,rk⟩:=l
    have c0:wr.cell? ⟨g,k*6,none⟩=some (.int .i64 rf):=cc 0 _ rfl
    have c1:wr.cell? ⟨g,k*6+1,none⟩=some (.int .i64 rt):=cc 1 _ rfl
    have c2:wr.cell? ⟨g,k*6+2,none⟩=some (.bool ra):=cc 2 _ rfl
    have c3:wr.cell? ⟨g,k*6+3,none⟩=some (.bool rb):=cc 3 _ rfl
    have c4:wr.cell? ⟨g,k*6+4,none⟩=some (.bool rcc):=cc 4 _ rfl
    have c5:wr.cell? ⟨g,k*6+5,none⟩=some (.int .i64 rk):=cc 5 _ rfl
    have HLk:Hid (P.L.getD k Re.Rg.zero=⟨rf,rt,ra,rb,rcc,rk⟩):=hl
    clear L1 cc hl
    go_upto_region 4 with fail
    have G4:Hid (bc W1 (wr.alloc (.cells (s7 rf rt ra rb rcc rk) 126))/\Blk (wr.alloc (.cells (s7 rf rt ra rb rcc rk) 126)) wr.heap.size (sy rf rt ra rb rcc rk) 126):=⟨below_then hst.out.1 baa,Blk.made _ _ _⟩
    have HJ:Hid (∀ j,j<k->bor1 f t (P.L.getD j Re.Rg.zero)=false):=hst.out.2
    clear c0 c1 c2 c3 c4 c5 hst lg
    generalize (wr.alloc (.cells (s7 rf rt ra rb rcc rk) 126))=V4 at G4 |-
    obtain ⟨q,hq⟩: ∃ q,q=wr.heap.size:=⟨_,rfl⟩
    have G5:Hid (bc W1 V4/\Blk V4 q (sy rf rt ra rb rcc rk) 126/\Blk V4 b1 [.int .i64 f,.int .i64 t] 66):=by rw [hq];exact ⟨G4.out.1,G4.out.2,G1.out.2.below G4.out.1⟩
    rw [<- hq]
    clear hq G4
    have x5:V4.cell? ⟨q,5,none⟩=some (.int .i64 rk):=G5.out.2.1.cell 5
    by_cases ck:rk=1
    . subst ck
      obtain ⟨z,hz⟩: ∃ z:Int,(⟨rf,rt,ra,rb,rcc,1⟩:Re.Rg).len f t=z:=⟨_,rfl⟩
      have x0:V4.cell? ⟨q,0,none⟩=some (.int .i64 rf):=G5.out.2.1.cell 0
      have x1:V4.cell? ⟨q,1,none⟩=some (.int .i64 rt):=G5.out.2.1.cell 1
      have x2:V4.cell? ⟨q,2,none⟩=some (.bool ra):=G5.out.2.1.cell 2
      have x3:V4.cell? ⟨q,3,none⟩=some (.bool rb):=G5.out.2.1.cell 3
      have x4:V4.cell? ⟨q,4,none⟩=some (.bool rcc):=G5.out.2.1.cell 4
      have y0:V4.cell? ⟨b1,0,none⟩=some (.int .i64 f):=G5.out.2.2.cell 0
      have y1:V4.cell? ⟨b1,1,none⟩=some (.int .i64 t):=G5.out.2.2.cell 1
      have lb1:b1<V4.heap.size:=G5.out.2.2.lt
      have CN:Hid (Calls Tryz.prog 95 #[.slice (some ⟨V4.heap.size,0,none⟩) 1 1,.agg #[.int .i64 f,.int .i64 t]] (V4.alloc (.cells (s7 rf rt ra rb rcc 1) 126)) (re (.int .i64 z) V4)):=by
       have q0:=Re.count_any 0 (some ⟨V4.heap.size,0,none⟩) 1 [⟨rf,rt,ra,rb,rcc,1⟩] (by simp) (fun j hj=>by
        have:j=0:=by simpa using hj
        subst this;exact nl) f t (V4.alloc (.cells (s7 rf rt ra rb rcc 1) 126)) (isl_one (Blk.made _ _ _))
       refine Calls.mono q0 ?_
       rintro e w' ⟨he,hb⟩
       refine ⟨?_,below_then baa hb⟩
       rw [he,show Re.cntR f t [(⟨rf,rt,ra,rb,rcc,1⟩:Re.Rg)]=z by rw [<- hz];show _+(0:Int)=_;omega]
      have HZ:Hid ((⟨rf,rt,ra,rb,rcc,1⟩:Re.Rg).len f t=z):=hz
      clear hz nl
      go_wp2_with fail
      refine Calls.mono CN.out ?_
      rintro e w5 ⟨rfl,hb5⟩
      have G6:Hid (bc W1 w5):=below_then G5.out.1 hb5
      clear hb5 CN G5 x0 x1 x2 x3 x4 x5 y0 y1 lb1
      by_cases cz:0<z
      . have d1:decide (0<z)=true:=by simp [cz]
        have HB:Hid (bor1 f t (P.L.getD k Re.Rg.zero)=true):=by
         show bor1 f t _=true
         rw [HLk.out];unfold bor1;rw [HZ.out,d1];rfl
        clear cz
        go_wp2_with fail
        go_returns
        exact ⟨by rw [bor_yes (by rw [HL.out.2.1];exact hlt) HB.out];rfl,below_then G1.out.1 G6.out⟩
      . have d1:decide (0<z)=false:=by simp [cz]
        have HB:Hid (∀ j,j<k+1->bor1 f t (P.L.getD j Re.Rg.zero)=false):=fun j hj=>by
         rcases Nat.lt_succ_iff_lt_or_eq.1 hj with c | rfl
         . exact HJ.out j c
         . rw [HLk.out];unfold bor1;rw [HZ.out,d1];rfl
        clear cz
        have HE:Hid (bc W1 w5/\ ∀ j,j<k+1->bor1 f t (P.L.getD j Re.Rg.zero)=false):=⟨G6.out,HB.out⟩
        go_wp2_with fail
        go_roundw
        case rel=>exact ⟨k+1,by omega,by go_num,HE⟩
        case measure=>simp [intOf];omega
    . have d1:(rk==1)=false:=by simp [ck]
      have HE:Hid (bc W1 V4/\ ∀ j,j<k+1->bor1 f t (P.L.getD j Re.Rg.zero)=false):=⟨G5.out.1,fun j hj=>by
       rcases Nat.lt_succ_iff_lt_or_eq.1 hj with c | rfl
       . exact HJ.out j c
       . rw [HLk.out];unfold bor1;rw [d1];rfl⟩
      clear ck nl
      go_wp2_with fail
      go_roundw
      case rel=>exact ⟨k+1,by omega,by go_num,HE⟩
      case measure=>simp [intOf];omega
  . obtain rfl:k=m:=by omega
    have hd:decide ((k:Int)<(k:Int))=false:=by simp
    go_wp2_with fail
    go_returns
    exact ⟨by rw [bor_no (fun j hj=>hst.out.2 j (by rw [HL.out.2.1] at hj;exact hj))];rfl,below_then G1.out.1 hst.out.1⟩
def lent1 (pd f t:Int) (g:Sh.Gr):Bool:=g.tk && (g.fr==pd) && decide (f<=g.pg) && decide (g.pg<t)
def lendsB (I:Nat->Sh.Gr) (pd f t:Int):Bool:=(Sh.ofL I pd 256).any fun j=>lent1 pd f t (I j)
theorem lends_yes {I:Nat->Sh.Gr} {pd f t:Int} {k:Nat} (hk:k<(Sh.ofL I pd 256).length) (h:lent1 pd f t (I ((Sh.ofL I pd 256).getD k 0))=true):lendsB I pd f t=true:=by
 unfold lendsB
 rw [List.any_eq_true]
 refine ⟨_,?_,h⟩
 rw [List.getD_eq_getElem?_getD,List.getElem?_eq_getElem hk]
 exact List.getElem_mem hk
theorem lends_no {I:Nat->Sh.Gr} {pd f t:Int} (h: ∀ k,k<(Sh.ofL I pd 256).length->lent1 pd f t (I ((Sh.ofL I pd 256).getD k 0))=false):lendsB I pd f t=false:=by
 unfold lendsB
 rw [List.any_eq_false]
 intro x hx
 obtain ⟨k,hk,e⟩:=List.mem_iff_getElem.1 hx
 have:=h k hk
 rw [List.getD_eq_getElem?_getD,List.getElem?_eq_getElem hk,Option.getD_some,e] at this
 simp [this]
theorem Mn.lends (h:Mn O n W M Q T root I A B) (pd f t:Int) :
 Calls Tryz.prog 80 #[pp M.mb,.int .i64 pd,.agg #[.int .i64 f,.int .i64 t]] W (re (.bool (lendsB I pd f t)) W):=by
 have HG0:Hid (Sh.IsTab (ME M) W M.mb I):=h.gra
 have LM:M.mb<W.heap.size:=h.lt _ kn1
 have OC:Hid (∀ w,bc W w->Calls Tryz.prog 100 #[.pointer (some ⟨M.mb,2,none⟩),.int .i64 pd] w fun e w'=>(∃ q c,e=.returned (.slice q (Sh.ofL I pd 256).length c)/\Sh.IsRow w' w.heap.size q (Sh.ofL I pd 256))/\bc w w'):=fun w hb=>Sh.of_call M.mb I pd w (HG0.out.below hb)
 have GC:Hid (∀ (j:Nat) (w:World),j<256->bc W w->Calls Tryz.prog 84 #[.pointer (some ⟨M.mb,2,none⟩),.int .i64 j] w (re (.tuple #[(I j).val,.bool (I j).is]) w)):=fun j w hj hb=>Sh.get_in M.mb I j hj w (HG0.out.below hb)
 have MO:Hid (∀ j,j∈Sh.ofL I pd 256->j<256):=fun j hj=>((Sh.mem_of I pd j 256).1 hj).1
 have FL:Hid ((Sh.ofL I pd 256).length<=256):=Sh.of_len I pd 256
 have Y1:Hid (∀ k,k<(Sh.ofL I pd 256).length->lent1 pd f t (I ((Sh.ofL I pd 256).getD k 0))=true->lendsB I pd f t=true):=fun k hk=>lends_yes hk
 have Y0:Hid ((∀ k,k<(Sh.ofL I pd 256).length->lent1 pd f t (I ((Sh.ofL I pd 256).getD k 0))=false)->lendsB I pd f t=false):=fun q=>lends_no q
 generalize Sh.ofL I pd 256=L at OC MO FL Y1 Y0
 generalize lendsB I pd f t=X at Y1 Y0 |-
 obtain ⟨m,hm⟩: ∃ m,L.length=m:=⟨_,rfl⟩
 have few:m<=256:=by rw [<- hm];exact FL.out
 rw [hm] at OC Y1 Y0
 have HMM:Hid (L.length=m):=hm
 clear h hm FL
 have G0:Hid (bc W (W.alloc (.cells #[.int .i64 f,.int .i64 t] 66))/\Blk (W.alloc (.cells #[.int .i64 f,.int .i64 t] 66)) W.heap.size [.int .i64 f,.int .i64 t] 66):=⟨baa,Blk.made _ _ _⟩
 go_enter Tryz.func80,Tryz.ntmps80
 go_upto_region 1 with fail
 generalize (W.alloc (.cells #[.int .i64 f,.int .i64 t] 66))=W1 at G0 |-
 obtain ⟨b1,hb1⟩: ∃ b1,b1=W.heap.size:=⟨_,rfl⟩
 have G1:Hid (bc W W1/\Blk W1 b1 [.int .i64 f,.int .i64 t] 66):=kt1
 rw [<- hb1]
 clear hb1 G0
 go_wp2_with fail
 refine Calls.mono (OC.out _ G1.out.1) ?_
 rintro e W2 ⟨⟨p0,c0,rfl,hr⟩,hb2⟩
 have G2:Hid (bc W1 W2/\Sh.IsRow W2 W1.heap.size p0 L):=⟨hb2,hr⟩
 clear hb2 hr OC
 go_wp2_with fail
 go_loopw [17] (fun x V=> ∃ k:Nat,k<=m/\x=.int .i64 (k:Nat)/\Hid (bc W1 V/\bc W2 V/\ ∀ j,j<k->lent1 pd f t (I (L.getD j 0))=false)) (fun x _=>m-(intOf x).toNat)
 case atStart=>exact ⟨0,by omega,rfl,G2.out.1,Below.refl _ _,fun j hj=>absurd hj (Nat.not_lt_zero _)⟩
 case round =>
  obtain ⟨k,hk,rfl,hst⟩:=hrel
  have ww:IntKind.i64.wrap ((k:Int)+1)=((k+1:Nat):Int):=km1
  by_cases hlt:k<m
  . have hd:decide ((k:Int)<(m:Int))=true:=by simp;omega
    obtain ⟨g,rfl,_,lg,cc⟩:=(G2.out.2.below hst.out.2.1) k (by rw [HMM.out];exact hlt)
    obtain ⟨id,hid⟩: ∃ id,L.getD k 0=id:=⟨_,rfl⟩
    have HID:Hid (L.getD k 0=id/\id<256):=⟨hid,by
     rw [<- hid]
     refine MO.out _ ?_
     have hl:k<L.length:=by rw [HMM.out];exact hlt
     rw [List.getD_eq_getElem?_getD,List.getElem?_eq_getElem hl]
     exact List.getElem_mem hl⟩
    rw [hid] at cc
    clear hid
    go_wp2_with fail
    refine Calls.mono (GC.out id _ HID.out.2 (below_then G1.out.1 hst.out.1)) ?_
    rintro e u ⟨rfl,hb⟩
    obtain ⟨l,hl⟩: ∃ l,I id=l:=⟨_,rfl⟩
    rw [hl]
    obtain ⟨gf,gp,gd,gw,gt,ga⟩:=l
    have HG:Hid (I (L.getD k 0)=⟨gf,gp,gd,gw,gt,ga⟩):=by rw [HID.out.1];exact hl
    generalize (Sh.Gr.is ⟨gf,gp,gd,gw,gt,ga⟩)=zz
    have HJ:Hid (∀ j,j<k->lent1 pd f t (I (L.getD j 0))=false):=hst.out.2.2
    have G4:Hid ((bc W1 (u.alloc (.cells (sb1 gf gp gd gw gt ga) 55))/\bc W2 (u.alloc (.cells (sb1 gf gp gd gw gt ga) 55)))/\Blk (u.alloc (.cells (sb1 gf gp gd gw gt ga) 55)) u.heap.size (sa1 gf gp gd gw gt ga) 55):=⟨⟨below_new (below_then hst.out.1 hb) _,below_new (below_then hst.out.2.1 hb) _⟩,Blk.made _ _ _⟩
    clear hl hb cc lg hst
    go_upto_region 5 with fail
    generalize (u.alloc (.cells (sb1 gf gp gd gw gt ga) 55))=V5 at G4 |-
    obtain ⟨q,hq⟩: ∃ q,q=u.heap.size:=⟨_,rfl⟩
    have G5:Hid (bc W1 V5/\bc W2 V5):=G4.out.1
    have G6:Hid (Blk V5 q (sa1 gf gp gd gw gt ga) 55/\Blk V5 b1 [.int .i64 f,.int .i64 t] 66):=by rw [hq];exact ⟨G4.out.2,G1.out.2.below G4.out.1.1⟩
    rw [<- hq]
    clear hq G4
    have x0:V5.cell? ⟨q,0,none⟩=some (.int .i64 gf):=G6.out.1.cell 0
    have x1:V5.cell? ⟨q,1,none⟩=some (.int .i64 gp):=G6.out.1.cell 1
    have x4:V5.cell? ⟨q,4,none⟩=some (.bool gt):=G6.out.1.cell 4
    have y0:V5.cell? ⟨b1,0,none⟩=some (.int .i64 f):=G6.out.2.cell 0
    have y1:V5.cell? ⟨b1,1,none⟩=some (.int .i64 t):=G6.out.2.cell 1
    have HE0:Hid (bc W1 V5/\bc W2 V5):=G5
    clear G6
    cases gt
    . have HE:Hid (bc W1 V5/\bc W2 V5/\ ∀ j,j<k+1->lent1 pd f t (I (L.getD j 0))=false):=⟨G5.out.1,G5.out.2,fun j hj=>by
       rcases Nat.lt_succ_iff_lt_or_eq.1 hj with c | rfl
       . exact HJ.out j c
       . rw [HG.out];unfold lent1;simp⟩
      clear G5
      go_wp2_with fail
      go_roundw
      case rel=>exact ⟨k+1,by omega,by go_num,HE⟩
      case measure=>simp [intOf];omega
    . by_cases ca:gf=pd
      rotate_left
      . have d1:(gf==pd)=false:=by simp [ca]
        clear ca
        have HE:Hid (bc W1 V5/\bc W2 V5/\ ∀ j,j<k+1->lent1 pd f t (I (L.getD j 0))=false):=⟨G5.out.1,G5.out.2,fun j hj=>by
         rcases Nat.lt_succ_iff_lt_or_eq.1 hj with c | rfl
         . exact HJ.out j c
         . rw [HG.out];unfold lent1;simp [d1]⟩
        clear G5
        go_wp2_with fail
        go_roundw
        case rel=>exact ⟨k+1,by omega,by go_num,HE⟩
        case measure=>simp [intOf];omega
      have d1:(gf==pd)=true:=by simp [ca]
      by_cases cb:f<=gp
      rotate_left
      . have d2:decide (f<=gp)=false:=by simp [cb]
        clear cb ca
        have HE:Hid (bc W1 V5/\bc W2 V5/\ ∀ j,j<k+1->lent1 pd f t (I (L.getD j 0))=false):=⟨G5.out.1,G5.out.2,fun j hj=>by
         rcases Nat.lt_succ_iff_lt_or_eq.1 hj with c | rfl
         . exact HJ.out j c
         . rw [HG.out];unfold lent1;simp [d1,d2]⟩
        clear G5
        go_wp2_with fail
        go_roundw
        case rel=>exact ⟨k+1,by omega,by go_num,HE⟩
        case measure=>simp [intOf];omega
      have d2:decide (f<=gp)=true:=by simp [cb]
      by_cases ce:gp<t
      rotate_left
      . have d3:decide (gp<t)=false:=by simp [ce]
        clear cb ca ce
        have HE:Hid (bc W1 V5/\bc W2 V5/\ ∀ j,j<k+1->lent1 pd f t (I (L.getD j 0))=false):=⟨G5.out.1,G5.out.2,fun j hj=>by
         rcases Nat.lt_succ_iff_lt_or_eq.1 hj with c | rfl
         . exact HJ.out j c
         . rw [HG.out];unfold lent1;simp [d1,d2,d3]⟩
        clear G5
        go_wp2_with fail
        go_roundw
        case rel=>exact ⟨k+1,by omega,by go_num,HE⟩
        case measure=>simp [intOf];omega
      have d3:decide (gp<t)=true:=by simp [ce]
      have HB:Hid (X=true):=Y1.out k hlt (by rw [HG.out];unfold lent1;simp [d1,d2,d3])
      clear ca cb ce
      go_wp2_with fail
      go_returns
      exact ⟨by rw [HB.out];rfl,below_then G1.out.1 G5.out.1⟩
  . obtain rfl:k=m:=by omega
    have hd:decide ((k:Int)<(k:Int))=false:=by simp
    go_wp2_with fail
    go_returns
    exact ⟨by rw [Y0.out (fun j hj=>hst.out.2.2 j hj)];rfl,below_then G1.out.1 hst.out.1⟩
def isKid (A:Nat->Option Pr) (pd:Int) (m:Nat):Bool:=match A m with | none=>false | some P=>P.par==pd
def childL (A:Nat->Option Pr) (pd:Int):Nat->List Nat
 | 0 => []
 | m + 1 => childL A pd m ++ (if isKid A pd m then [m] else [])
theorem child_len (A:Nat->Option Pr) (pd:Int): ∀ m,(childL A pd m).length<=m
 | 0 => by simp [childL]
 | m + 1 => by
  have:=child_len A pd m
  simp only [childL,List.length_append]
  split <;> simp <;> omega
theorem child_yes (A:Nat->Option Pr) (pd:Int) (m:Nat) (h:isKid A pd m=true):childL A pd (m+1)=childL A pd m++[m]:=by rw [childL,if_pos h]
theorem child_no (A:Nat->Option Pr) (pd:Int) (m:Nat) (h:isKid A pd m=false):childL A pd (m+1)=childL A pd m:=by rw [childL,if_neg (by rw [h];simp),List.append_nil]
theorem mem_child (A:Nat->Option Pr) (pd:Int) (j:Nat): ∀ m,j∈childL A pd m↔j<m/\isKid A pd j=true
 | 0 => by simp [childL]
 | m + 1 => by
  rw [childL,List.mem_append,mem_child A pd j m]
  by_cases c:isKid A pd m=true
  . rw [if_pos c,List.mem_singleton]
    constructor
    . rintro (h | h)
      . exact ⟨by omega,h.2⟩
      . subst h;exact ⟨by omega,c⟩
    . rintro ⟨h1,h2⟩
      by_cases d:j=m
      . exact Or.inr d
      . exact Or.inl ⟨by omega,h2⟩
  . rw [if_neg c]
    constructor
    . rintro (h | h)
      . exact ⟨by omega,h.2⟩
      . cases h
    . rintro ⟨h1,h2⟩
      by_cases d:j=m
      . subst d;exact absurd h2 c
      . exact Or.inl ⟨by omega,h2⟩
theorem Mn.children (h:Mn O n W M Q T root I A B) (pd:Int) :
 Calls Tryz.prog 105 #[pp M.mb,.int .i64 pd] W fun e w'=>(∃ q c,e=.returned (.slice q (childL A pd 16).length c)/\Sh.IsRow w' W.heap.size q (childL A pd 16))/\bc W w':=by
 obtain ⟨i0,hi,hz0,hz1,hz2⟩:=Sh.info5 Sh.int_info5
 have HM:Hid (Mn O n W M Q T root I A B):=h
 have LM:Hid (M.mb<W.heap.size):=h.lt _ kn1
 clear h
 go_enter Tryz.func105,Tryz.ntmps105
 go_wp2_with fail
 go_loopw [5,8] (fun v x V=> ∃ k:Nat,k<=16/\x=.int .i64 k/\Hid (V.ownsRow W.heap.size 3 1 v (childL A pd k).length (Sh.numV (childL A pd k)))/\Hid (bc W V)) (fun _ x _=>16-(intOf x).toNat)
 case atStart=>exact ⟨0,by omega,rfl,⟨by simp [Sh.numV,childL],Or.inl ⟨rfl,rfl⟩⟩,Below.refl _ _⟩
 case round =>
  obtain ⟨k,hk,rfl,OW,BW⟩:=hrel
  have ww:IntKind.i64.wrap ((k:Int)+1)=((k+1:Nat):Int):=km1
  by_cases hlt:k<16
  . have hd:decide ((k:Int)<16)=true:=by simp;omega
    have LN:Hid ((childL A pd k).length<=16):=Nat.le_trans (child_len A pd k) (by omega)
    have M1:Hid (Mn O n wr M Q T root I A B):=HM.out.below BW.out
    have c3:wr.cell? ⟨M.mb,1538,none⟩=some (.map (some M.pm)):=M1.out.mod.2.2.1
    cases hA:A k with
    | none =>
     have lk:=M1.out.nobody (k:Int) (wf64 (by omega) (by omega)) (by rw [prF_nat,if_pos hlt,hA];rfl)
     have HN:Hid (childL A pd (k+1)=childL A pd k):=child_no A pd k (by unfold isKid;rw [hA])
     have HE:Hid (wr.ownsRow W.heap.size 3 1 u5 (childL A pd (k+1)).length (Sh.numV (childL A pd (k+1)))/\bc W wr):=⟨by rw [HN.out];exact OW.out,BW.out⟩
     clear hA M1 OW BW LN
     go_wp2_with fail
     go_roundw
     case rel=>exact ⟨k+1,by omega,by go_num,HE.out.1,HE.out.2⟩
     case measure=>simp [intOf];omega
    | some P =>
     have lk:=M1.out.proc hlt hA
     have lp:P.pb<wr.heap.size:=(M1.out.prs k P hlt hA).pro.lt
     have c0:wr.cell? ⟨P.pb,0,none⟩=some (.int .i64 P.par):=(M1.out.prs k P hlt hA).pro.cell 0
     have HK:Hid (isKid A pd k=(P.par==pd)):=by show _=_;unfold isKid;rw [hA]
     clear hA M1
     by_cases c:P.par=pd
     . have d1:(P.par==pd)=true:=by simp [c]
       have HN:Hid (childL A pd (k+1)=childL A pd k++[k]):=child_yes A pd k (by rw [HK.out];exact d1)
       have OX:Hid ((wr.alloc (.cells #[.int .i64 k] 3)).ownsRow W.heap.size 3 1 u5 (childL A pd k).length (Sh.numV (childL A pd k))):=Sh.own_keep OW.out baa
       have NW:Hid (∀ j x,([.int .i64 k]:List Value)[j]? =some x->(wr.alloc (.cells #[.int .i64 k] 3)).cell? ((⟨wr.heap.size,0,none⟩:Addr).add j)=some x):=Sh.new_cells wr #[.int .i64 k] 3
       have ON:Hid (∀ x∈([.int .i64 k]:List Value),x.oneCell'=true):=by show ∀ x∈([.int .i64 k]:List Value),x.oneCell'=true;simp [Value.oneCell']
       have HZ:Hid (W.heap.size<=(wr.alloc (.cells #[.int .i64 k] 3)).heap.size):=by show _<=_;rw [World.size_alloc];have:=BW.out.size;omega
       have MX:Hid ((childL A pd k).length+1<=maxLen):=by show _<=_;unfold maxLen;have:=LN.out;omega
       have BY:Hid (((childL A pd k).length+1)*8<=140737488355328):=by show _<=_;have:=LN.out;omega
       clear c HK
       go_wp2_with (at_builtin;refine wpList_append_own _ rfl _ _ 41 rfl W.heap.size 3 i0 (.int .i64 0) 1 8 Tryz.underlying41 hi hz0 hz1 hz2 rfl kh u5 ((childL A pd k).length) (Sh.numV (childL A pd k)) rfl OX.out ⟨wr.heap.size,0,none⟩ 1 1 ([.int .i64 k]:List Value) rfl rfl NW.out ON.out MX.out BY.out HZ.out ?_;intro v1 a0 hown hg hnil;have O2:Hid (a0.ownsRow W.heap.size 3 1 v1 ((childL A pd k).length+1) (Sh.numV (childL A pd k)++[.int .i64 k])):=hown;have B2:Hid (bc W a0):=Sh.below_grown (below_new BW.out _) OX.out hg;clear hown hg hnil)
       go_roundw
       case rel=>exact ⟨k+1,by omega,by go_num,(by rw [HN.out];have:=O2.out;show World.ownsRow _ _ _ _ _ _ _;simpa [Sh.numV] using this),B2⟩
       case measure=>simp [intOf];omega
     . have d1:(P.par==pd)=false:=by simp [c]
       have HN:Hid (childL A pd (k+1)=childL A pd k):=child_no A pd k (by rw [HK.out];exact d1)
       have HE:Hid (wr.ownsRow W.heap.size 3 1 u5 (childL A pd (k+1)).length (Sh.numV (childL A pd (k+1)))/\bc W wr):=⟨by rw [HN.out];exact OW.out,BW.out⟩
       clear c HK OW BW LN
       go_wp2_with fail
       go_roundw
       case rel=>exact ⟨k+1,by omega,by go_num,HE.out.1,HE.out.2⟩
       case measure=>simp [intOf];omega
  . obtain rfl:k=16:=by omega
    obtain ⟨q,c,hv,hr⟩:=Sh.row_read OW.out
    subst hv
    go_wp2_with fail
    go_returns
    exact ⟨⟨q,c,rfl,hr⟩,BW.out⟩
end
end Go.Proofs.YtokpmclmdobgeaaGreat.Fl
