import Derived.Test.YtkiclbnbnjbcaaaDoorBD3
import Derived.WalkSmall
namespace Go.Proofs.YtkiclbnbnjbcaaaDoor.Bd
open Go.ChangeShapes Go.WideShapes Go.ChangeAt Go.RowKit Go.Maps
set_option linter.unusedSimpArgs false
set_option linter.unusedVariables false
set_option maxRecDepth 8000
theorem wpList_app {P:Program} {ops:Array Oper} {rest:List Oper} {o:Oper} {a:Act} {w:World} {Q:Exit->Act->World->Prop} (hgd:o.guard=none) (s x:Operand) (t:TypeId)
 (ho:o.op=.call { callee:=.builtin .append,args:= #[s,x],argTypes:= #[t,t] }) (vs vx:Value) (hs:a.eval s=vs) (hx:a.eval x=vx) (v':Value) (w1:World)
 (hr:(Builtin.append_ #[t,t] o.type #[vs,vx]).run P w=.ok v' w1) (h:wpList P ops Q rest (a.put o.dst v') w1):wpList P ops Q (o::rest) a w:=by
 refine wpList_plain hgd fun K hK=> ?_
 unfold Oper.wp execOp
 simp only [ho,resolve,invoke,builtin,Sem.run_bind,Sem.run_pure,Result.andThen_ok,List.map_toArray,List.map_cons,List.map_nil,hs,hx,hr]
 exact hK _ _ h
theorem infoI: ∃ i,Tryd.prog.info? 3=some i/\i.zero=some (.int .i64 0)/\i.size=1/\i.bytes=8:=⟨_,rfl,by kernel_rfl,by kernel_rfl,by kernel_rfl⟩
theorem one_new {w:World} {b:Nat} {x:Int} (h:w.cell? ⟨b,0,none⟩=some (.int .i64 x)): ∀ j u,([.int .i64 x]:List Value)[j]? =some u->w.cell? ((⟨b,0,none⟩:Addr).add j)=some u:=by
 intro j u hu
 cases j with
 | zero => cases hu; rw [Addr.add_mid]; exact h
 | succ j => simp at hu
theorem one_one (x:Int): ∀ u∈([.int .i64 x]:List Value),u.oneCell'=true:=by
 intro u hu
 simp at hu
 subst hu;rfl
theorem app_row (base:Nat) (v:Value) (L:List Int) (x:Int) (hL:L.length<=1048576) (w:World) (h:w.ownsRow base 3 1 v L.length (L.map (Value.int .i64))) (hb:base<=w.heap.size) (hv: ∀ g,v.ownBlock=some g->g<w.heap.size) :
 ∃ v' W2,(Builtin.append_ #[44,44] 44 #[v,.slice (some ⟨w.heap.size,0,none⟩) 1 1]).run Tryd.prog (w.alloc (.cells #[.int .i64 x] 3))=.ok v' W2/\W2.ownsRow base 3 1 v' (L++[x]).length ((L++[x]).map (Value.int .i64))/\(w.alloc (.cells #[.int .i64 x] 3)).grownBy W2 v.ownBlock/\(v'.ownBlock=v.ownBlock\/v'.ownBlock=some (w.heap.size+1)):=by
 obtain ⟨i0,hi,hz0,hz1,hz2⟩:=infoI
 have O0:(w.alloc (.cells #[.int .i64 x] 3)).ownsRow base 3 1 v L.length (L.map (Value.int .i64)):=row_keep h (fun g e=>(Go.Joins.below_alloc1 w (.cells #[.int .i64 x] 3)).block g (hv g e))
 obtain ⟨v',W2,r,ho,hg,_,hat⟩:=run_append_own_at (P:=Tryd.prog) (w.alloc (.cells #[.int .i64 x] 3)) base 44 44 3 i0 (.int .i64 0) 1 8 Tryd.underlying44 hi hz0 hz1 hz2 rfl (by decide) v L.length (L.map (Value.int .i64)) O0
  ⟨w.heap.size,0,none⟩ 1 1 [.int .i64 x] rfl (one_new (Go.Joins.cell_of_block (own1 w _) 0)) (one_one x) (by unfold maxLen;omega) (by omega) (by rw [World.size_alloc];omega)
 rw [World.size_alloc] at hat
 refine ⟨v',W2,r,?_,hg,hat⟩
 rw [List.length_append,List.map_append];exact ho
theorem row_lt {w:World} {base n e s:Nat} {v:Value} {xs:List Value} (h:w.ownsRow base e s v n xs): ∀ g,v.ownBlock=some g->base<=g/\g<w.heap.size:=by
 obtain ⟨h1,h2⟩:=h
 rcases h2 with ⟨rfl,_⟩ | ⟨g',cap',cur,rfl,e2,e3,e4⟩
 . intro j e;cases e
 . intro j e;cases e;exact ⟨e2,blk_lt e3⟩
theorem getP (C:List Value) (q:Nat) (v:Value) (sv:Value) (h:C[q+1]? =some sv):(C.set (q+1) v)[q]? =C[q]? /\(C.set (q+1) v)[q+1]? =some v:=by
 have l:q+1<C.length:=(List.getElem?_eq_some_iff.1 h).1
 refine ⟨by rw [List.getElem?_set_ne (by omega)],?_⟩
 rw [List.getElem?_set_self l]
theorem own_len {w:World} {base n e s:Nat} {v:Value} {xs:List Value} (h:w.ownsRow base e s v n xs): ∃ p c,v=.slice p n c:=by
 obtain ⟨h1,h2⟩:=h
 rcases h2 with ⟨rfl,rfl⟩ | ⟨g',cap',cur,rfl,e2,e3,e4⟩
 . exact ⟨_,_,rfl⟩
 . exact ⟨_,_,rfl⟩
set_option maxHeartbeats 2000000 in
theorem push_any (base b q mb n:Nat) (C:List Value) (sv:Value) (h:List Int) (F:Int->Option Int) (x:Int) (hx:0<=x/\x<1048576) (hn:n<maxLen) (hl:h.length<=1048576) (w:World) (H:Bl w base b q mb n C sv h F) (hB:base<=w.heap.size) (hF:F x=none) :
 Calls Tryd.prog 117 #[.pointer (some ⟨b,q,none⟩),.iface 3 (.int .i64 x)] w fun e w'=> ∃ sv',e=.returned (.tuple #[])/\Bl w' base b q mb (n+1) (C.set (q+1) sv') sv' (h++[x]) (setF F x (some (h.length:Int)))/\Kf (fun k=>k=b\/k=mb\/sv.ownBlock=some k) w w'/\(sv'.ownBlock=sv.ownBlock\/ ∃ g,sv'.ownBlock=some g/\w.heap.size<=g):=by
 have wx:(Lit.int .i64 x).wf=true:=wf64 (by omega) (by omega)
 obtain ⟨p,c,hv,rd⟩:=H.read
 have M0:MapC w.drew mb n n F:=H.mp.block rfl
 obtain ⟨w1,r1,m1,g1⟩:=M0.set hn wx (wf64 (by omega) (by omega):(Lit.int .i64 (h.length:Int)).wf=true)
 rw [hF] at m1
 have m1':MapC w1 mb (n+1) (n+1) (setF F x (some (h.length:Int))):=m1
 have lbk:b<w.heap.size:=blk_lt H.blk
 have b1:Blk w1 b C 113:=(g1.block b lbk (fun e=>H.ne (Option.some.inj e))).trans H.blk
 have lrow:=row_lt H.own
 have row1:w1.ownsRow base 3 1 sv h.length (h.map (Value.int .i64)):=row_keep H.own (fun g e=>g1.block g (lrow g e).2 (fun e'=>(H.nb g e).2 (Option.some.inj e')))
 have s1:=g1.size
 have s1':w.heap.size<=w1.heap.size:=s1
 obtain ⟨v',W2,r2,ho,hg2,hat⟩:=app_row base sv h x hl w1 row1 (by omega) (fun g e=>Nat.lt_of_lt_of_le (lrow g e).2 s1')
 obtain ⟨p',c',hv'⟩:=own_len ho
 obtain ⟨n1,hn1⟩: ∃ n1,n1=(h++[x]).length:=⟨_,rfl⟩
 rw [<- hn1] at hv'
 have HN1:Hid (n1=(h++[x]).length):=hn1
 clear hn1
 subst hv'
 have c0:w.cell? ⟨b,q,none⟩=some (.map (some mb)):=by rw [H.blk.cell,H.cm]
 have c1:w.cell? ⟨b,q+1,none⟩=some (.slice p h.length c):=by rw [H.blk.cell,H.cs,hv]
 have d1:w1.cell? ⟨b,q+1,none⟩=some (.slice p h.length c):=by rw [b1.cell,H.cs,hv]
 have lb1:b<w1.heap.size:=blk_lt b1
 have bb:sv.ownBlock≠some b:=fun e=>(H.nb b e).1 rfl
 have b2:Blk W2 b C 113:=(hg2.block b (by rw [World.size_alloc];omega) (fun e=>bb e.symm)).trans (b1.below (Go.Joins.below_alloc1 _ _))
 have f2:W2.frozen? ⟨b,q+1,none⟩=false:=b2.free (q+1)
 have d2:W2.cell? ⟨b,q+1,none⟩=some (.slice p h.length c):=by rw [b2.cell,H.cs,hv]
 have lb2:b<W2.heap.size:=blk_lt b2
 obtain ⟨n0,hn0⟩: ∃ n0,n0=h.length:=⟨_,rfl⟩
 rw [<- hn0] at c1 d1 d2 r1
 rw [hv,<- hn0] at r2
 have HH:Hid (Bl w base b q mb n C sv h F):=H
 have P1:Hid (MapC w1 mb (n+1) (n+1) (setF F x (some (h.length:Int)))):=m1'
 have G1:Hid (w.drew.grownBy w1 (some mb)):=g1
 have G2:Hid ((w1.alloc (.cells #[.int .i64 x] 3)).grownBy W2 sv.ownBlock):=hg2
 have HO:Hid (W2.ownsRow base 3 1 (.slice p' n1 c') (h++[x]).length ((h++[x]).map (Value.int .i64))):=ho
 have HA:Hid ((Value.slice p' n1 c').ownBlock=sv.ownBlock\/(Value.slice p' n1 c').ownBlock=some (w1.heap.size+1)):=hat
 have HB2:Hid (Blk W2 b C 113):=b2
 have HN:Hid (n0=h.length):=hn0
 have HV:Hid (sv=.slice p h.length c):=hv
 clear H rd M0 m1 m1' g1 b1 row1 hg2 ho hat b2 lrow bb hn0 hv
 have ta: ∀ W:World,(Instr.typeAssert (.iface 3 (.int .i64 x)) 20 3 false).run Tryd.prog W=.ok (.int .i64 x) W:=fun W=>by kernel_rfl
 go_enter Tryd.func117,Tryd.ntmps117
 go_wp2_with fail
 go_region
 all_goals (go_wp2_with (at_builtin;refine wpList_app rfl _ _ 44 rfl (.slice p n0 c) (.slice (some ⟨w1.heap.size,0,none⟩) 1 1) rfl rfl (.slice p' n1 c') W2 r2 ?_))
 go_end0
 have H:=HH.out
 have gp:=getP C q (.slice p' n1 c') sv H.cs
 have rl:=row_lt HO.out
 have lb:=H.lb
 have hs: ∀ k,k≠b->(W2.setCell ⟨b,q+1,none⟩ (.slice p' n1 c')).heap[k]? =W2.heap[k]? :=fun k hk=>Below.heap_setCell _ _ _ _ hk
 have nmb:sv.ownBlock≠some mb:=fun e=>(H.nb mb e).2 rfl
 have lm1:mb<w1.heap.size:=P1.out.lt
 have hm:(W2.setCell ⟨b,q+1,none⟩ (.slice p' n1 c')).heap[mb]? =w1.heap[mb]? :=(hs mb (fun e=>H.ne e.symm)).trans ((G2.out.block mb (by rw [World.size_alloc];omega) (fun e=>nmb e.symm)).trans ((Go.Joins.below_alloc1 _ _).block mb lm1))
 refine ⟨_,rfl,⟨HB2.out.set (q+1) _,gp.1.trans H.cm,gp.2,row_keep HO.out (fun g e=>hs g (fun e'=>by have:=(rl g e).1;omega)),P1.out.block hm,H.ne,fun g e=>by have:=(rl g e).1;omega,lb⟩,?_,?_⟩
 . have k1:Kf (fun k=>k=b\/k=mb\/sv.ownBlock=some k) w w1:=(Kf.refl _ w).drew.trans (Kf.grown G1.out (Or.inr (Or.inl rfl)))
   exact ((k1.trans (Kf.below (Go.Joins.below_alloc1 _ _))).trans (Kf.grownO G2.out (fun k e=>Or.inr (Or.inr e)))).trans (Kf.set W2 b (q+1) _ (Or.inl rfl))
 . rcases HA.out with e | e
   . exact Or.inl e
   . exact Or.inr ⟨_,e,by omega⟩
end Go.Proofs.YtkiclbnbnjbcaaaDoor.Bd
