import Derived.Test.YtkiclbnbnjbcaaaDoorBD1
namespace Go.Proofs.YtkiclbnbnjbcaaaDoor.Bd
open Go.ChangeShapes Go.WideShapes Go.ChangeAt Go.RowKit Go.Maps
set_option linter.unusedSimpArgs false
set_option linter.unusedVariables false
set_option maxRecDepth 8000
theorem row_set {w:World} {base n e i:Nat} {v:Value} {xs:List Value} (h:w.ownsRow base e 1 v n xs) {g:Nat} (hg:v.ownBlock=some g) (hi:i<n) (x:Value):(w.setCell ⟨g,i,none⟩ x).ownsRow base e 1 v n (xs.set i x):=by
 obtain ⟨hl,⟨rfl,_⟩ | ⟨g',cap,cur,rfl,hb,hblk,h1,h2,h3,h4⟩⟩:=h
 . cases hg
 . cases hg
   refine ⟨by rw [List.length_set];exact hl,Or.inr ⟨g',cap,cur.setIfInBounds i x,rfl,hb,Go.Joins.block_setCell hblk x,h1,h2,by simpa using h3,?_⟩⟩
   rw [Array.toList_setIfInBounds,<- h4,List.take_set]
theorem row_free {w:World} {base n e:Nat} {v:Value} {xs:List Value} (h:w.ownsRow base e 1 v n xs) {g:Nat} (hg:v.ownBlock=some g) (i:Nat):w.frozen? ⟨g,i,none⟩=false:=by
 obtain ⟨hl,⟨rfl,_⟩ | ⟨g',cap,cur,rfl,hb,hblk,_⟩⟩:=h
 . cases hg
 . cases hg;exact Go.Joins.unfrozen_of_block hblk i
theorem MapC.tight {w:World} {b n c:Nat} {f:Int->Option Int} (h:MapC w b n c f):MapC w b c c f:=by
 obtain ⟨D,⟨es,clock,hb,F,hs,hD⟩,hc,hd⟩:=h
 refine ⟨D,⟨es,clock,hb,F,?_,hD⟩,hc,hd⟩
 rw [<- hc,hD]
 exact Nat.le_of_eq (length_read es).symm
structure Kf (S:Nat->Prop) (w w':World):Prop where
 os:w'.os=w.os
 tape:w'.tape=w.tape
 output:w'.output=w.output
 size:w.heap.size<=w'.heap.size
 block: ∀ k,k<w.heap.size-> ¬ S k->w'.heap[k]? =w.heap[k]?
theorem Kf.refl (S:Nat->Prop) (w:World):Kf S w w:=⟨rfl,rfl,rfl,Nat.le_refl _,fun _ _ _=>rfl⟩
theorem Kf.trans {S:Nat->Prop} {a b c:World} (h:Kf S a b) (k:Kf S b c):Kf S a c:=⟨k.os.trans h.os,k.tape.trans h.tape,k.output.trans h.output,Nat.le_trans h.size k.size,fun j hj hS=>(k.block j (Nat.lt_of_lt_of_le hj h.size) hS).trans (h.block j hj hS)⟩
theorem Kf.grown {S:Nat->Prop} {a b:World} {r:Nat} (h:a.grownBy b (some r)) (hr:S r):Kf S a b:=⟨h.os,h.tape,h.output,h.size,fun j hj hS=>h.block j hj (fun e=>hS (by rw [Option.some.inj e];exact hr))⟩
theorem Kf.grownO {S:Nat->Prop} {a b:World} {r:Option Nat} (h:a.grownBy b r) (hr: ∀ k,r=some k->S k):Kf S a b:=⟨h.os,h.tape,h.output,h.size,fun j hj hS=>h.block j hj (fun e=>hS (hr j e.symm))⟩
theorem Kf.below {S:Nat->Prop} {a b:World} (h:Below a.heap.size a b):Kf S a b:=⟨h.os,h.tape,h.output,h.size,fun j hj _=>h.block j hj⟩
theorem Kf.set {S:Nat->Prop} (w:World) (g i:Nat) (x:Value) (hS:S g):Kf S w (w.setCell ⟨g,i,none⟩ x):=by
 have bl:=(Below.refl g w).setCell (p:=⟨g,i,none⟩) (Nat.le_refl g) x
 exact ⟨bl.os,bl.tape,bl.output,bl.size,fun j _ hj=>Below.heap_setCell _ _ _ _ (fun e=>hj (by rw [e];exact hS))⟩
theorem Kf.drew {S:Nat->Prop} {a b:World} (h:Kf S a b):Kf S a b.drew:=⟨h.os,h.tape,h.output,h.size,h.block⟩
def swapL (h:List Int) (i j:Nat):List Int:=(h.set i (h.getD j 0)).set j (h.getD i 0)
def Placed (h:List Int) (F:Int->Option Int):Prop:=(∀ k (hk:k<h.length),F h[k]=some (k:Int))/\(∀ a k,F a=some k-> ∃ m:Nat,k=m/\h[m]? =some a)/\ ∀ a∈h,0<=a/\a<1048576
theorem Placed.ne {h:List Int} {F:Int->Option Int} (H:Placed h F) {i j:Nat} (hi:i<h.length) (hj:j<h.length) (n:i≠j):h[i]≠h[j]:=fun e=>by
 have a:=H.1 i hi
 rw [e,H.1 j hj] at a
 have:=Option.some.inj a
 omega
theorem swap_any (base b q mb n:Nat) (C:List Value) (sv:Value) (h:List Int) (F:Int->Option Int) (i j:Nat) (hi:i<h.length) (hj:j<h.length) (nij:i≠j) (hn:n<maxLen) (hl:h.length<4611686018427387904) (w:World) (H:Bl w base b q mb n C sv h F) (hP:Placed h F) :
 Calls Tryd.prog 118 #[.pointer (some ⟨b,q,none⟩),.int .i64 i,.int .i64 j] w fun e w'=>e=.returned (.tuple #[])/\Bl w' base b q mb n C sv (swapL h i j) (setF (setF F h[j] (some (i:Int))) h[i] (some (j:Int)))/\Kf (fun k=>k=mb\/sv.ownBlock=some k) w w':=by
 obtain ⟨p,c,hv,rd⟩:=H.read
 obtain ⟨g,rfl,bg,lg,ri⟩:=rd i hi
 obtain ⟨g',e',_,_,rj⟩:=rd j hj
 cases e'
 have hg:sv.ownBlock=some g:=by rw [hv];rfl
 have ng:=H.nb g hg
 obtain ⟨W1,hW1⟩: ∃ W1,W1=(w.setCell ⟨g,i,none⟩ (.int .i64 h[j])).setCell ⟨g,j,none⟩ (.int .i64 h[i]):=⟨_,rfl⟩
 have hp: ∀ k,k≠g->W1.heap[k]? =w.heap[k]? :=fun k hk=>by rw [hW1];exact (Below.heap_setCell _ _ _ _ hk).trans (Below.heap_setCell _ _ _ _ hk)
 have wi:(Lit.int .i64 h[i]).wf=true:=by have:=hP.2.2 h[i] (List.getElem_mem hi);exact wf64 (by omega) (by omega)
 have wj:(Lit.int .i64 h[j]).wf=true:=by have:=hP.2.2 h[j] (List.getElem_mem hj);exact wf64 (by omega) (by omega)
 have M1:MapC W1.drew.drew mb n n F:=H.mp.block (hp mb (fun e=>ng.2 e.symm))
 have fy:(F h[j]).isSome=true:=by rw [hP.1 j hj];rfl
 obtain ⟨v1,s1,r1,st1⟩:=M1.entry wj fy
 obtain ⟨w2,u2,m2,g2⟩:=M1.set hn wj (wf64 (by omega) (by omega):(Lit.int .i64 (i:Int)).wf=true)
 rw [if_pos fy] at m2
 have M2:=m2.tight
 have nxy:h[i]≠h[j]:=hP.ne hi hj nij
 have fx:(setF F h[j] (some (i:Int)) h[i]).isSome=true:=by rw [set_other _ _ _ _ nxy,hP.1 i hi];rfl
 obtain ⟨v2,s2,r2,st2⟩:=M2.entry wi fx
 obtain ⟨w3,u3,m3,g3⟩:=M2.set hn wi (wf64 (by omega) (by omega):(Lit.int .i64 (j:Int)).wf=true)
 rw [if_pos fx] at m3
 have c0:w.cell? ⟨b,q,none⟩=some (.map (some mb)):=by rw [H.blk.cell,H.cm]
 have c1:w.cell? ⟨b,q+1,none⟩=some (.slice (some ⟨g,0,none⟩) h.length c):=by rw [H.blk.cell,H.cs,hv]
 have e1:=(st1 (.int .i64 i)).trans u2
 have e2:=(st2 (.int .i64 j)).trans u3
 rw [hW1] at r1 e1
 refine (swap_walk b q mb g c h.length i j h[i] h[j] w w2 w3 c0 c1 ri rj (row_free H.own hg i) (row_free H.own hg j) hi hj nij lg (blk_lt H.blk) ng.1 v1 v2 s1 s2 r1 e1 r2 e2).mono ?_
 rintro e w' ⟨he,rfl⟩
 have k3: ∀ k,k<w.heap.size->k≠g->k≠mb->w'.heap[k]? =w.heap[k]? :=fun k hk h1 h2=>by
  have z1:k<W1.drew.drew.heap.size:=by
   have:=(Array.getElem?_eq_some_iff.1 ((hp k h1).trans (Array.getElem?_eq_getElem hk))).1
   exact this
  have z2:=g2.block k z1 (fun e=>h2 (Option.some.inj e))
  have z3:=g3.block k (Nat.lt_of_lt_of_le z1 g2.size) (fun e=>h2 (Option.some.inj e))
  exact (z3.trans z2).trans (hp k h1)
 have kf:Kf (fun k=>k=mb\/sv.ownBlock=some k) w w':=by
  have a1:Kf (fun k=>k=mb\/sv.ownBlock=some k) w W1:=by rw [hW1];exact (Kf.set w g i _ (Or.inr hg)).trans (Kf.set _ g j _ (Or.inr hg))
  exact (a1.drew.drew.trans (Kf.grown g2 (Or.inl rfl))).trans (Kf.grown g3 (Or.inl rfl))
 have row1:W1.ownsRow base 3 1 sv h.length (((h.map (Value.int .i64)).set i (.int .i64 h[j])).set j (.int .i64 h[i])):=by rw [hW1];exact row_set (row_set H.own hg hi _) hg hj _
 have row3:w'.ownsRow base 3 1 sv (swapL h i j).length ((swapL h i j).map (Value.int .i64)):=by
  have q1:(swapL h i j).map (Value.int .i64)=((h.map (Value.int .i64)).set i (.int .i64 h[j])).set j (.int .i64 h[i]):=by
   unfold swapL
   rw [List.map_set,List.map_set,List.getD_eq_getElem?_getD,List.getD_eq_getElem?_getD,List.getElem?_eq_getElem hi,List.getElem?_eq_getElem hj];rfl
  have q2:(swapL h i j).length=h.length:=by unfold swapL;simp
  rw [q1,q2]
  refine row_keep row1 (fun g' e=> ?_)
  rw [hg] at e
  cases e
  have z1:g<W1.drew.drew.heap.size:=by
   have:g<W1.heap.size:=by rw [hW1];simpa using lg
   exact this
  have z2:=g2.block g z1 (fun e=>ng.2 (Option.some.inj e))
  have z3:=g3.block g (Nat.lt_of_lt_of_le z1 g2.size) (fun e=>ng.2 (Option.some.inj e))
  exact z3.trans z2
 exact ⟨he,⟨(k3 b (blk_lt H.blk) (fun e=>ng.1 e.symm) H.ne).trans H.blk,H.cm,H.cs,row3,m3.tight,H.ne,H.nb,H.lb⟩,kf⟩
end Go.Proofs.YtkiclbnbnjbcaaaDoor.Bd
