import Derived.Test.YtkiclbnbnjbcaaaDoorBDB
namespace Go.Proofs.YtkiclbnbnjbcaaaDoor.Bd
open Go.ChangeShapes Go.WideShapes Go.ChangeAt Go.RowKit Go.Maps
set_option linter.unusedSimpArgs false
set_option linter.unusedVariables false
set_option maxRecDepth 8000
theorem isorder_any (o:Int) (w:World):Calls Tryd.prog 91 #[.int .i64 o] w fun e w'=>e=.returned (.bool (decide (0<=o/\o<=10)))/\w'=w:=by
 by_cases c1:0<=o
 . have d1:decide (0<=o)=true:=decide_eq_true c1
   by_cases c2:o<=10
   . have d2:decide (o<=10)=true:=decide_eq_true c2
     have d3:decide (0<=o/\o<=10)=true:=decide_eq_true ⟨c1,c2⟩
     rw [d3]
     clear c1 c2 d3
     go_enter Tryd.func91,Tryd.ntmps91
     go_wp2_with fail
     go_ret
     exact ⟨rfl,rfl⟩
   . have d2:decide (o<=10)=false:=decide_eq_false c2
     have d3:decide (0<=o/\o<=10)=false:=decide_eq_false (fun h=>c2 h.2)
     rw [d3]
     clear c1 c2 d3
     go_enter Tryd.func91,Tryd.ntmps91
     go_wp2_with fail
     go_ret
     exact ⟨rfl,rfl⟩
 . have d1:decide (0<=o)=false:=decide_eq_false c1
   have d3:decide (0<=o/\o<=10)=false:=decide_eq_false (fun h=>c1 h.1)
   rw [d3]
   clear c1 d3
   go_enter Tryd.func91,Tryd.ntmps91
   go_wp2_with fail
   go_ret
   exact ⟨rfl,rfl⟩
theorem Bs.mono {w:World} {base b q mb N N':Nat} {C:List Value} {sv:Value} {A:Int->Prop} (H:Bs w base b q mb N C sv A) (h:N<=N'):Bs w base b q mb N' C sv A:=by
 obtain ⟨h',F,n,h1,h2,h3,h4,h5⟩:=H
 exact ⟨h',F,n,h1,h2,h3,⟨by omega,by omega⟩,h5⟩
theorem blen_any (base b q mb n:Nat) (C:List Value) (sv:Value) (A:Int->Prop) (w:World) (H:Bs w base b q mb n C sv A) :
 ∃ m:Nat,(m=0↔ ∀ a,¬ A a)/\m<=n/\Hid (Calls Tryd.prog 44 #[.pointer (some ⟨b,q,none⟩)] w fun e w'=>e=.returned (.int .i64 m)/\w'=w):=by
 obtain ⟨h,F,n',h1,h2,h3,h4,h5⟩:=H
 refine ⟨h.length,?_,h4.1,len_any base b q mb n' C sv h F w h1⟩
 constructor
 . intro e a ha
   have:=List.length_pos_of_mem ((h5 a).2 ha)
   omega
 . intro e
   cases h with
   | nil => rfl
   | cons x r => exact absurd ((h5 x).1 (by simp)) (e x)
structure Bd (w:World) (base b gb N:Nat) (C:List Value) (mbs:Nat->Nat) (svs:Nat->Value) (A:Nat->Int->Prop) (G:Int->Option Int):Prop where
 bs: ∀ o,o<11->Bs w base b (o*2) (mbs o) N C (svs o) (A o)
 cg:C[22]? =some (.map (some gb))
 gm: ∃ n,n<=N/\MapC w gb n n G
 dm: ∀ o o',o<11->o'<11->o≠o'->mbs o≠mbs o'
 dg: ∀ o,o<11->mbs o≠gb
 ds: ∀ o o',o<11->o'<11->o≠o'-> ∀ g,(svs o).ownBlock=some g->(svs o').ownBlock≠some g
 gb:b≠gb/\gb<base
 bb:base<=w.heap.size
def upd {α :Type} (f:Nat-> α) (o:Nat) (x: α):Nat-> α :=fun k=>if k=o then x else f k
theorem upd_same {α :Type} (f:Nat-> α) (o:Nat) (x: α):upd f o x o=x:=if_pos rfl
theorem upd_other {α :Type} (f:Nat-> α) (o:Nat) (x: α) (k:Nat) (h:k≠o):upd f o x k=f k:=if_neg h
theorem Bd.turn {w w':World} {base b gb N N':Nat} {C:List Value} {mbs:Nat->Nat} {svs:Nat->Value} {A:Nat->Int->Prop} {G:Int->Option Int} (H:Bd w base b gb N C mbs svs A G) (o:Nat) (ho:o<11) {sv':Value} {A':Int->Prop} (hN:N<=N')
 (h1:Bs w' base b (o*2) (mbs o) N' (C.set (o*2+1) sv') sv' A') (hk:Kf (fun k=>k=b\/k=mbs o\/(svs o).ownBlock=some k) w w') (hs:sv'.ownBlock=(svs o).ownBlock\/ ∃ g,sv'.ownBlock=some g/\w.heap.size<=g) :
 Bd w' base b gb N' (C.set (o*2+1) sv') mbs (upd svs o sv') (upd A o A') G:=by
 obtain ⟨h0,F0,n0,bl0,_⟩:=H.bs o ho
 obtain ⟨hh,F1,n1,bl1,hr1⟩:=h1
 have base_of: ∀ k,k<11-> ∀ g,(svs k).ownBlock=some g->base<=g/\g<w.heap.size:=fun k hk g e=>by
  obtain ⟨_,_,_,bl,_⟩:=H.bs k hk
  exact row_lt bl.own g e
 have mlt: ∀ k,k<11->mbs k<base:=fun k hk=>by obtain ⟨_,_,_,bl,_⟩:=H.bs k hk;exact bl.lb.2
 have bm: ∀ k,k<11->b≠mbs k:=fun k hk=>by obtain ⟨_,_,_,bl,_⟩:=H.bs k hk;exact bl.ne
 have keep: ∀ j,j<base->j≠b->j≠mbs o->w'.heap[j]? =w.heap[j]? :=fun j hj n1 n2=>hk.block j (Nat.lt_of_lt_of_le hj H.bb) (fun e=>by
  rcases e with e | e | e
  . exact n1 e
  . exact n2 e
  . have:=(base_of o ho j e).1;omega)
 refine ⟨fun k hk'=> ?_,?_,?_,H.dm,H.dg,fun a c ha hc hac g e e'=> ?_,H.gb,Nat.le_trans H.bb hk.size⟩
 . by_cases c:k=o
   . subst c
     rw [upd_same,upd_same];exact ⟨hh,F1,n1,bl1,hr1⟩
   . rw [upd_other _ _ _ _ c,upd_other _ _ _ _ c]
     obtain ⟨h2,F2,n2,bl2,p2,q2,r2,s2⟩:=H.bs k hk'
     refine ⟨h2,F2,n2,⟨bl1.blk,?_,?_,?_,bl2.mp.block (keep _ (mlt k hk') (fun e=>bm k hk' e.symm) (H.dm k o hk' ho c)),bl2.ne,bl2.nb,bl2.lb⟩,p2,q2,⟨by omega,by omega⟩,s2⟩
     . rw [List.getElem?_set_ne (by omega)];exact bl2.cm
     . rw [List.getElem?_set_ne (by omega)];exact bl2.cs
     . refine row_keep bl2.own (fun g e=>hk.block g (base_of k hk' g e).2 (fun e2=> ?_))
       have lo:=(base_of k hk' g e).1
       rcases e2 with e2 | e2 | e2
       . have:=bl2.lb.1;omega
       . have:=mlt o ho;omega
       . exact H.ds k o hk' ho c g e e2
 . rw [List.getElem?_set_ne (by omega)];exact H.cg
 . obtain ⟨n,hn,hm⟩:=H.gm
   exact ⟨n,by omega,hm.block (keep _ H.gb.2 (fun e=>H.gb.1 e.symm) (fun e=>H.dg o ho e.symm))⟩
 . by_cases c1:a=o
   . subst c1
     rw [upd_same] at e
     rw [upd_other _ _ _ _ (fun q=>hac q.symm)] at e'
     rcases hs with s | ⟨g',s,lg⟩
     . exact H.ds a c ha hc hac g (s.symm.trans e) e'
     . rw [s] at e
       have:=Option.some.inj e
       have:=(base_of c hc g e').2
       omega
   . rw [upd_other _ _ _ _ c1] at e
     by_cases c2:c=o
     . subst c2
       rw [upd_same] at e'
       rcases hs with s | ⟨g',s,lg⟩
       . exact H.ds a c ha hc hac g e (s.symm.trans e')
       . rw [s] at e'
         have:=Option.some.inj e'
         have:=(base_of a ha g e).2
         omega
     . rw [upd_other _ _ _ _ c2] at e'
       exact H.ds a c ha hc hac g e e'
theorem Bd.below {w w':World} {base b gb N:Nat} {C:List Value} {mbs:Nat->Nat} {svs:Nat->Value} {A:Nat->Int->Prop} {G:Int->Option Int} (H:Bd w base b gb N C mbs svs A G) (hb:Below w.heap.size w w'):Bd w' base b gb N C mbs svs A G:=by
 obtain ⟨n,hn,hm⟩:=H.gm
 exact ⟨fun o ho=>(H.bs o ho).below hb,H.cg,⟨n,hn,hm.block (hb.block gb hm.lt)⟩,H.dm,H.dg,H.ds,H.gb,Nat.le_trans H.bb hb.size⟩
theorem Bd.blk {w:World} {base b gb N:Nat} {C:List Value} {mbs:Nat->Nat} {svs:Nat->Value} {A:Nat->Int->Prop} {G:Int->Option Int} (H:Bd w base b gb N C mbs svs A G):Blk w b C 113/\b<base:=by
 obtain ⟨_,_,_,bl,_⟩:=H.bs 0 (by omega)
 exact ⟨bl.blk,bl.lb.1⟩
theorem Bd.give {w w':World} {base b gb N N':Nat} {C:List Value} {mbs:Nat->Nat} {svs:Nat->Value} {A:Nat->Int->Prop} {G G':Int->Option Int} (H:Bd w base b gb N C mbs svs A G) (hN:N<=N') (hg:w.grownBy w' (some gb)) (hm: ∃ n,n<=N'/\MapC w' gb n n G'):Bd w' base b gb N' C mbs svs A G':=by
 refine ⟨fun o ho=> ?_,H.cg,hm,H.dm,H.dg,H.ds,H.gb,Nat.le_trans H.bb hg.size⟩
 obtain ⟨h2,F2,n2,bl2,p2,q2,r2,s2⟩:=H.bs o ho
 have kp: ∀ j,j<w.heap.size->j≠gb->w'.heap[j]? =w.heap[j]? :=fun j hj hn=>hg.block j hj (fun e=>hn (Option.some.inj e))
 refine ⟨h2,F2,n2,⟨(kp b (blk_lt bl2.blk) H.gb.1).trans bl2.blk,bl2.cm,bl2.cs,row_keep bl2.own (fun g e=> ?_),bl2.mp.block (kp _ bl2.mp.lt (H.dg o ho)),bl2.ne,bl2.nb,bl2.lb⟩,p2,q2,⟨by omega,by omega⟩,s2⟩
 have:=row_lt bl2.own g e
 exact kp g this.2 (by have:=H.gb.2;omega)
end Go.Proofs.YtkiclbnbnjbcaaaDoor.Bd
