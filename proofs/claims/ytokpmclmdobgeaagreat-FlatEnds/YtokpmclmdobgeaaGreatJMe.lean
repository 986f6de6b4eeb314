import Derived.Test.YtokpmclmdobgeaaGreatJLe
import Derived.Test.YtokpmclmdobgeaaGreatKZe
import Derived.Test.YtokpmclmdobgeaaGreatJDe
set_option linter.unusedSimpArgs false
set_option linter.unusedVariables false
set_option maxRecDepth 8000
open Go.ChangeShapes Go.WideShapes Go.ChangeAt Go.RowKit Go.Maps
namespace Go.Proofs.YtokpmclmdobgeaaGreat.Fl
def kidT (T:Nat->Qo.Nd) (q:Int):Nat->Qo.Nd:=Qo.putT (Qo.putT T 1 (Qo.Nd.new 0 q)) 0 ((T 0).lend q)
theorem kid_nums {T:Nat->Qo.Nd} {q:Int} (l0:(T 0).live=true) (l1:(T 1).live=false) (q0:0<=q) (hr:q<=(T 0).room):Qo.childN T 0 q=0/\Qo.childI T 0 q=1/\Qo.childT T 0 q=kidT T q:=by
 have f1:Qo.freeN T=1:=Qo.idxF_hit (fun j=> !(T j).live) 64 0 1 (by omega) (by omega) (by simp [l1]) (fun j a b=>by
  have:j=0:=by omega
  subst this;simp [l0])
 have g:Qo.getN T 0=T 0:=by unfold Qo.getN;rw [if_pos ⟨by omega,by omega⟩];rfl
 have m:Qo.mayN T 0 q=0:=by
  unfold Qo.mayN
  rw [g,if_neg (by rw [l0];simp),if_neg (by omega),if_neg (by omega)]
 have n:Qo.childN T 0 q=0:=by unfold Qo.childN;rw [if_pos m,f1,if_neg (by omega)]
 refine ⟨n,?_,?_⟩
 . unfold Qo.childI;rw [if_pos n,f1]
 . unfold Qo.childT;rw [if_pos n,f1];rfl
theorem que_lt {W:World} {b:Nat} {S:Ca.Qu} (h:Ca.IsQ W b S):b<W.heap.size:=Ca.blk_lt h.blk
set_option maxRecDepth 20000 in
theorem zsize:Tryz.zeroCells60.size=1539:=kc
theorem root_at (u:Int):Qo.rootT u 0=⟨-1,u,0,0,true⟩/\Qo.rootT u 1=Qo.Nd.zero:=⟨Qo.put_same _ _ _,Qo.put_other _ _ _ _ (by omega)⟩
theorem root_charge {u t:Int} (t0:0<=t) (tu:t<=u):Qo.mayN (Qo.rootT u) 0 t=0/\Qo.chargeT (Qo.rootT u) 0 t 0=⟨-1,u,0+t,0,true⟩/\(Qo.chargeT (Qo.rootT u) 0 t 1).live=false:=by
 have g:Qo.getN (Qo.rootT u) 0=⟨-1,u,0,0,true⟩:=by unfold Qo.getN;rw [if_pos ⟨by omega,by omega⟩];exact (root_at u).1
 have m:Qo.mayN (Qo.rootT u) 0 t=0:=by
  unfold Qo.mayN
  rw [g,if_neg (by simp),if_neg (by omega),if_neg (by simp [Qo.Nd.room];omega)]
 refine ⟨m,?_,?_⟩
 . unfold Qo.chargeT
   rw [if_pos m]
   show Qo.putT (Qo.rootT u) 0 ((Qo.rootT u 0).plus t) 0=_
   rw [Qo.put_same,(root_at u).1];rfl
 . unfold Qo.chargeT
   rw [if_pos m]
   show (Qo.putT (Qo.rootT u) 0 ((Qo.rootT u 0).plus t) 1).live=false
   rw [Qo.put_other _ _ _ _ (by omega),(root_at u).2];rfl
def Bx (O:Nat->Nat) (w:World) (b:Nat) (C:List Value) (t:TypeId):Prop:=Blk w b C t/\O b=0
theorem Bx.on {O O':Nat->Nat} {W V:World} {b:Nat} {C:List Value} {t:TypeId} (h:Bx O W b C t) (e: ∀ j,j<W.heap.size->O' j=O j) (k:Ko O W V):Bx O' V b C t:=⟨k.blk h.1 h.2,(e b h.1.lt).trans h.2⟩
theorem Bx.below {O:Nat->Nat} {V V':World} {b:Nat} {C:List Value} {t:TypeId} (h:Bx O V b C t) (hb:bc V V'):Bx O V' b C t:=⟨h.1.below hb,h.2⟩
theorem Bx.made {O:Nat->Nat} {V:World} (lt: ∀ j,O j≠0->j<V.heap.size) (C:List Value) (t:TypeId):Bx O (V.alloc (.cells C.toArray t)) V.heap.size C t:=⟨Blk.made _ _ _,Decidable.byContradiction fun q=>Nat.lt_irrefl _ (lt _ q)⟩
def Low (O:Nat->Nat) (w V:World):Prop:=bc w V/\ ∀ j,j<w.heap.size->O j=0
theorem Low.on {O O':Nat->Nat} {w W V:World} (h:Low O w W) (e: ∀ j,j<W.heap.size->O' j=O j) (k:Ko O W V):Low O' w V :=
 ⟨⟨k.os.trans h.1.os,k.tape.trans h.1.tape,k.output.trans h.1.output,Nat.le_trans h.1.size k.size,fun j hj=>(k.block j ⟨h.2 j hj,nla hj h.1.size⟩).trans (h.1.block j hj)⟩,fun j hj=>(e j (nla hj h.1.size)).trans (h.2 j hj)⟩
theorem Low.below {O:Nat->Nat} {w V V':World} (h:Low O w V) (hb:bc V V'):Low O w V':=⟨below_then h.1 hb,h.2⟩
end Go.Proofs.YtokpmclmdobgeaaGreat.Fl
