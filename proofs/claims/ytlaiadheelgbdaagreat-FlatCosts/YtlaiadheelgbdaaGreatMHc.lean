import Derived.Test.YtlaiadheelgbdaaGreatChecked
import Derived.WalkKit
import Derived.ProofKit
import Derived.OpenShut
import Derived.Carry
import Derived.Lib.SmallJoins
import Derived.Deep.Light
import Derived.Deep.MidRow
import Derived.Deep.RegionHeld3
import Derived.Deep.DrawnRows
import Derived.Handy
import Derived.Laws.MakeOwn
import Derived.MapKept
import Derived.Laws.Tables
import Derived.Laws.CopyRow
import Derived.BigQuiet
import Derived.Deep.QuietTactic
namespace Go.Proofs.YtlaiadheelgbdaaGreat.Ca
open Go.ChangeShapes Go.WideShapes Go.ChangeAt Go.RowKit Go.Maps
set_option linter.unusedSimpArgs false
set_option linter.unusedVariables false
set_option maxRecDepth 8000
theorem own1 (w:World) (o:Obj):(w.alloc o).heap[w.heap.size]? =some o:=(MapKept.heap_alloc w o).1
theorem blk_lt {w:World} {b:Nat} {o:Obj} (h:w.heap[b]? =some o):b<w.heap.size:=(Array.getElem?_eq_some_iff.1 h).1
structure Kb (x:Nat) (w w':World):Prop where
 os:w'.os=w.os
 tape:w'.tape=w.tape
 output:w'.output=w.output
 size:w.heap.size<=w'.heap.size
 block: ∀ k,k<w.heap.size->k≠x->w'.heap[k]? =w.heap[k]?
theorem Kb.refl (x:Nat) (w:World):Kb x w w:=⟨rfl,rfl,rfl,Nat.le_refl _,fun _ _ _=>rfl⟩
theorem Kb.trans {x:Nat} {a b c:World} (h:Kb x a b) (k:Kb x b c):Kb x a c :=
 ⟨k.os.trans h.os,k.tape.trans h.tape,k.output.trans h.output,Nat.le_trans h.size k.size,fun j hj h1=>(k.block j (Nat.lt_of_lt_of_le hj h.size) h1).trans (h.block j hj h1)⟩
theorem Kb.below {x:Nat} {a b:World} (h:Below a.heap.size a b):Kb x a b:=⟨h.os,h.tape,h.output,h.size,fun j hj _=>h.block j hj⟩
theorem Kb.drew {x:Nat} {a b:World} (h:Kb x a b):Kb x a b.drew:=⟨h.os,h.tape,h.output,h.size,h.block⟩
theorem Kb.set (w:World) (b o:Nat) (v:Value):Kb b w (w.setCell ⟨b,o,none⟩ v):=by
 have h:Below 0 w (w.setCell ⟨b,o,none⟩ v):=(Below.refl 0 w).setCell (Nat.zero_le _) v
 exact ⟨h.os,h.tape,h.output,h.size,fun k hk hne=>Below.heap_setCell _ _ _ _ hne⟩
theorem Kb.cell {x:Nat} {a b:World} (h:Kb x a b) {k i:Nat} (l:k<a.heap.size) (h1:k≠x):b.cell? ⟨k,i,none⟩=a.cell? ⟨k,i,none⟩:=World.cell?_of_block (h.block k l h1)
structure Qu where
 q:Int
 t:Int
 L:List Int
def pad (L:List Int):List Int:=L++List.replicate (16-L.length) 0
def Qu.nums (S:Qu):List Int:=S.q::S.t::(S.L.length:Int)::pad S.L
def Qu.cells (S:Qu):List Value:=S.nums.map (Value.int .i64)
structure IsQ (w:World) (b:Nat) (S:Qu):Prop where
 blk:w.heap[b]? =some (.cells S.cells.toArray 87 (0,0))
 few:S.L.length<=16
theorem pad_len {L:List Int} (h:L.length<=16):(pad L).length=16:=by simp [pad];omega
theorem IsQ.kept {w w':World} {b:Nat} {S:Qu} (h:IsQ w b S) (hb:b<w.heap.size->w'.heap[b]? =w.heap[b]?):IsQ w' b S:=⟨(hb (blk_lt h.blk)).trans h.blk,h.few⟩
theorem IsQ.below {w w':World} {b:Nat} {S:Qu} (h:IsQ w b S) (hb:Below w.heap.size w w'):IsQ w' b S:=h.kept (fun l=>hb.block b l)
theorem IsQ.cell {w:World} {b:Nat} {S:Qu} (h:IsQ w b S) (i:Nat):w.cell? ⟨b,i,none⟩=(S.nums[i]?).map (Value.int .i64):=by
 rw [Go.Joins.cell_of_block h.blk i];simp [Qu.cells]
theorem IsQ.free {w:World} {b:Nat} {S:Qu} (h:IsQ w b S) (i:Nat):w.frozen? ⟨b,i,none⟩=false:=Go.Joins.unfrozen_of_block h.blk i
theorem IsQ.c2 {w:World} {b:Nat} {S:Qu} (h:IsQ w b S):w.cell? ⟨b,2,none⟩=some (.int .i64 (S.L.length:Int)):=h.cell 2
theorem IsQ.cl {w:World} {b:Nat} {S:Qu} (h:IsQ w b S) (i:Nat) (hi:i<S.L.length):w.cell? ⟨b,3+i,none⟩=some (.int .i64 (S.L[i])):=by
 rw [h.cell (3+i),show 3+i=i+1+1+1 by omega]
 simp [Qu.nums,pad,List.getElem?_append_left hi]
theorem IsQ.there {w:World} {b:Nat} {S:Qu} (h:IsQ w b S) (i:Nat) (hi:i<16): ∃ v,w.cell? ⟨b,3+i,none⟩=some (.int .i64 v):=by
 rw [h.cell (3+i),show 3+i=i+1+1+1 by omega]
 have:=pad_len h.few
 exact ⟨(pad S.L)[i],by simp [Qu.nums,List.getElem?_eq_getElem (show i<(pad S.L).length by omega)]⟩
def Own (w W:World) (b:Nat) (S:Qu):Prop:=IsQ W b S/\Below w.heap.size w W/\w.heap.size<=b
structure IsN (w:World) (b:Nat) (N:List Int):Prop where
 blk:w.heap[b]? =some (.cells (N.map (Value.int .i64)).toArray 87 (0,0))
 many:N.length=19
theorem IsQ.n {w:World} {b:Nat} {S:Qu} (h:IsQ w b S):IsN w b S.nums:=⟨h.blk,by simp [Qu.nums,pad_len h.few]⟩
theorem IsN.q {w:World} {b:Nat} {N:List Int} {S:Qu} (h:IsN w b N) (e:N=S.nums) (f:S.L.length<=16):IsQ w b S:=⟨by rw [h.blk,e];rfl,f⟩
theorem IsN.set {w:World} {b:Nat} {N:List Int} (h:IsN w b N) (i:Nat) (v:Int):IsN (w.setCell ⟨b,i,none⟩ (.int .i64 v)) b (N.set i v):=by
 refine ⟨?_,by simp [h.many]⟩
 rw [Go.Joins.block_setCell h.blk]
 simp [List.map_set]
theorem IsN.kept {w w':World} {b:Nat} {N:List Int} (h:IsN w b N) (hb:b<w.heap.size->w'.heap[b]? =w.heap[b]?):IsN w' b N:=⟨(hb (blk_lt h.blk)).trans h.blk,h.many⟩
end Go.Proofs.YtlaiadheelgbdaaGreat.Ca
namespace Go.Proofs.YtlaiadheelgbdaaGreat.Ca
open Go.ChangeShapes Go.WideShapes Go.ChangeAt Go.RowKit Go.Maps
set_option linter.unusedSimpArgs false
set_option linter.unusedVariables false
set_option maxRecDepth 8000
set_option maxHeartbeats 400000 in
theorem new_ok (q:Int) (h0:1<=q) (h1:q<=1000) (w:World):Calls Tryz.prog 19 #[.int .i64 q] w fun e w'=>e=.returned (.tuple #[.pointer (some ⟨w.heap.size,0,none⟩),.int .i64 0])/\Own w w' w.heap.size ⟨q,0,[]⟩:=by
 have e1:decide (q<1)=false:=by simp;omega
 have e2:decide (1000<q)=false:=by simp;omega
 go_enter Tryz.func19,Tryz.ntmps19
 go_wp2_with fail
 go_returns
 refine ⟨rfl,⟨?_,by simp⟩,Go.Joins.below_alloc1 _ _,Nat.le_refl _⟩
 exact own1 w _
def nowV (L:List Int):Int:=match L with | []=>0 | x::_=>x
def nowB (L:List Int):Bool:=match L with | []=>false | _::_=>true
set_option maxHeartbeats 400000 in
theorem now_any (b:Nat) (S:Qu) (w:World) (h:IsQ w b S):Calls Tryz.prog 12 #[.pointer (some ⟨b,0,none⟩)] w fun e w'=>e=.returned (.tuple #[.int .i64 (nowV S.L),.bool (nowB S.L)])/\Below w.heap.size w w':=by
 have lt0:=blk_lt h.blk
 have c2:=h.c2
 obtain ⟨q,t,L⟩:=S
 cases L with
 | nil =>
  have e0:(((0:Nat):Int)==0)=true:=rfl
  have c2':w.cell? ⟨b,2,none⟩=some (.int .i64 0):=c2
  clear h c2
  go_enter Tryz.func12,Tryz.ntmps12
  go_wp2_with fail
  go_returns
  exact ⟨rfl,Below.refl _ _⟩
 | cons x r =>
  have c3:w.cell? ⟨b,3,none⟩=some (.int .i64 x):=h.cl 0 (by simp)
  obtain ⟨m,hm⟩: ∃ m:Int,m=(((x::r).length:Nat):Int):=⟨_,rfl⟩
  have m0:(m==0)=false:=by rw [hm];simp;omega
  have m1: ¬ m=0:=by rw [hm];simp;omega
  have c2':w.cell? ⟨b,2,none⟩=some (.int .i64 m):=by rw [hm];exact c2
  clear h c2 hm
  go_enter Tryz.func12,Tryz.ntmps12
  go_wp2_with fail
  go_returns
  exact ⟨rfl,Below.refl _ _⟩
end Go.Proofs.YtlaiadheelgbdaaGreat.Ca
namespace Go.Proofs.YtlaiadheelgbdaaGreat.Ca
open Go.ChangeShapes Go.WideShapes Go.ChangeAt Go.RowKit Go.Maps
set_option linter.unusedSimpArgs false
set_option linter.unusedVariables false
set_option maxRecDepth 8000
theorem nums_push (q t p:Int) (L:List Int) (h:L.length<16):((Qu.nums ⟨q,t,L⟩).set (3+L.length) p).set 2 ((L.length:Int)+1)=Qu.nums ⟨q,t,L++[p]⟩:=by
 have e:16-L.length=(16-(L.length+1))+1:=by omega
 have e3:3+L.length=L.length+1+1+1:=by omega
 simp only [Qu.nums,pad,e,e3,List.set_cons_succ,List.set_cons_zero,List.replicate_succ,List.length_append,List.length_singleton,List.append_assoc,List.singleton_append]
 simp
set_option maxHeartbeats 400000 in
theorem push_any (b:Nat) (q t p:Int) (L:List Int) (hL:L.length<16) (w:World) (h:IsQ w b ⟨q,t,L⟩):Calls Tryz.prog 62 #[.pointer (some ⟨b,0,none⟩),.int .i64 p] w fun e w'=>e=.returned (.tuple #[])/\IsQ w' b ⟨q,t,L++[p]⟩/\Kb b w w':=by
 have H:Hid (IsQ w b ⟨q,t,L⟩):=h
 have lt0:=blk_lt h.blk
 have c2:=h.c2
 obtain ⟨v,cv⟩:=h.there L.length hL
 have fz:w.frozen? ⟨b,3+L.length,none⟩=false:=h.free _
 have f2:w.frozen? ⟨b,2,none⟩=false:=h.free _
 have NP:=nums_push q t p L hL
 simp only at c2 cv
 clear h
 have HN:Hid (∀ W:World,IsN W b (((Qu.nums ⟨q,t,L⟩).set (3+L.length) p).set 2 ((L.length:Int)+1))->IsQ W b ⟨q,t,L++[p]⟩):=fun W k=>k.q NP (by simp;omega)
 clear NP
 have H1:Hid (IsN w b (Qu.nums ⟨q,t,L⟩)):=H.out.n
 clear H
 generalize Qu.nums ⟨q,t,L⟩=N at H1 HN
 generalize L.length=n at *
 have d1:decide ((n:Int)<16)=true:=by simp;omega
 have d0:decide ((n:Int)<0)=false:=by simp
 go_enter Tryz.func62,Tryz.ntmps62
 go_wp2_with fail
 go_region
 all_goals (go_wp2_with fail)
 all_goals (go_returns)
 all_goals (exact ⟨rfl,HN.out _ (((H1.out.set _ _).set _ _).kept (fun _=>rfl)),((Kb.set _ _ _ _).trans (Kb.set _ _ _ _)).drew⟩)
def fstAt (L:List Int) (p:Int):Nat:=L.findIdx (· ==p)
theorem fst_le (L:List Int) (p:Int):fstAt L p<=L.length:=List.findIdx_le_length
theorem fst_no {L:List Int} {p:Int} {j:Nat} (h:j<fstAt L p): ∃ hj:j<L.length,¬ L[j]=p:=by
 have l:=Nat.lt_of_lt_of_le h (fst_le L p)
 refine ⟨l,?_⟩
 have:=List.not_of_lt_findIdx h
 simpa using this
theorem fst_yes {L:List Int} {p:Int} (h:fstAt L p<L.length):L[fstAt L p]=p:=by
 have:=List.findIdx_getElem (p:=(· ==p)) (xs:=L) (w:=h)
 show L[List.findIdx (· ==p) L]'h=p
 simpa using this
theorem fst_lt {L:List Int} {p:Int}:fstAt L p<L.length↔p∈L:=by
 constructor
 . intro h;have:=fst_yes h;rw [<- this];exact List.getElem_mem _
 . intro h;exact List.findIdx_lt_length_of_exists ⟨p,h,by simp⟩
def plc (L:List Int) (p:Int):Int:=if fstAt L p<L.length then (fstAt L p:Int) else -1
set_option maxHeartbeats 1000000 in
theorem index_raw (b n k0:Nat) (A:Nat->Int) (p r:Int) (hL:n<=16) (hle:k0<=n) (w:World) (hw:b<w.heap.size) (HC:Hid (∀ i,i<n->w.cell? ⟨b,3+i,none⟩=some (.int .i64 (A i))))
 (HR:Hid (∀ j,j<k0-> ¬ A j=p)) (HY:Hid (k0<n->A k0=p)) (HP:Hid (r=if k0<n then (k0:Int) else -1)) :
 Calls Tryz.prog 92 #[.slice (some ⟨b,3,none⟩) n 16,.int .i64 p] w fun e w'=>e=.returned (.int .i64 r)/\w'=w:=by
 go_enter Tryz.func92,Tryz.ntmps92
 go_wp2_with fail
 go_loopw [8] (fun x W=> ∃ k:Nat,k<=k0/\x=.int .i64 k/\W=w) (fun x _=>n-(intOf x).toNat)
 case atStart=>exact ⟨0,by omega,rfl,rfl⟩
 case round =>
  obtain ⟨k,hk,rfl,rfl⟩:=hrel
  by_cases hlt:k<n
  . have hd:decide ((k:Int)<(n:Int))=true:=by simp;omega
    have hdk:(decide ((k:Int)<0))=false:=by simp
    obtain ⟨v,hv⟩: ∃ v,v=A k:=⟨_,rfl⟩
    have c0:wr.cell? ⟨b,3+k,none⟩=some (.int .i64 v):=by rw [hv];exact HC.out k hlt
    by_cases e:k<k0
    . have e1: ¬ p=v:=by rw [hv];exact fun z=>HR.out k e z.symm
      have e2:(p==v)=false:=by simp [e1]
      clear hv
      go_wp2_with fail
      go_roundw
      case rel=>exact ⟨k+1,by omega,by go_num,trivial⟩
      case measure=>simp [intOf];omega
    . obtain rfl:k=k0:=by omega
      have e1:v=p:=by rw [hv];exact HY.out hlt
      subst e1
      clear hv
      have e2:(v==v)=true:=by simp
      go_wp2_with fail
      go_ret
      exact ⟨by rw [HP.out,if_pos hlt];rfl,rfl⟩
  . obtain rfl:k=n:=by omega
    have hd:decide ((k:Int)<(k:Int))=false:=by simp
    go_wp2_with fail
    go_ret
    exact ⟨by rw [HP.out,if_neg (by omega)];rfl,rfl⟩
theorem index_any (b:Nat) (L:List Int) (p:Int) (hL:L.length<=16) (w:World) (hw:b<w.heap.size) (hc: ∀ i (hi:i<L.length),w.cell? ⟨b,3+i,none⟩=some (.int .i64 L[i])) :
 Calls Tryz.prog 92 #[.slice (some ⟨b,3,none⟩) L.length 16,.int .i64 p] w fun e w'=>e=.returned (.int .i64 (plc L p))/\w'=w:=by
 have at': ∀ i (hi:i<L.length),L[i]?.getD 0=L[i]:=fun i hi=>by rw [List.getElem?_eq_getElem hi];rfl
 refine index_raw b L.length (fstAt L p) (fun i=>L[i]?.getD 0) p _ hL (fst_le L p) w hw (fun i hi=> ?_) (fun j hj=> ?_) (fun h=> ?_) rfl
 . show _=some (Value.int .i64 (L[i]?.getD 0));rw [at' i hi];exact hc i hi
 . obtain ⟨l,e⟩:=fst_no hj
   show ¬ L[j]?.getD 0=p;rw [at' j l];exact e
 . show L[fstAt L p]?.getD 0=p;rw [at' _ h];exact fst_yes h
set_option maxHeartbeats 1000000 in
theorem place_any (b:Nat) (q t:Int) (L:List Int) (p:Int) (w:World) (h:IsQ w b ⟨q,t,L⟩) :
 Calls Tryz.prog 66 #[.pointer (some ⟨b,0,none⟩),.int .i64 p] w fun e w'=>e=.returned (.int .i64 (plc L p))/\Below w.heap.size w w':=by
 have HI:Hid (∀ W:World,b<W.heap.size->(∀ i (hi:i<L.length),W.cell? ⟨b,3+i,none⟩=some (.int .i64 L[i]))->Calls Tryz.prog 92 #[.slice (some ⟨b,3,none⟩) L.length 16,.int .i64 p] W fun e w'=>e=.returned (.int .i64 (plc L p))/\w'=W):=fun W a c=>index_any b L p h.few W a c
 have lt0:=blk_lt h.blk
 have c2:=h.c2
 have few:=h.few
 simp only at few c2
 have HC:Hid (∀ i (hi:i<L.length),w.cell? ⟨b,3+i,none⟩=some (.int .i64 L[i])):=fun i hi=>h.cl i hi
 clear h
 have n0:(0:Int)<=(L.length:Int):=by omega
 have n1:(L.length:Int)<=16:=by omega
 obtain ⟨r,hr⟩: ∃ r,r=plc L p:=⟨_,rfl⟩
 rw [<- hr] at HI |-
 clear hr
 go_enter Tryz.func66,Tryz.ntmps66
 go_wp2_with fail
 go_quiet ((go_at_call 92;refine Calls.quiet_of_same (HI.out _ lt0 HC.out)))
 go_wp2_with fail
 go_returns
 exact ⟨rfl,⟨rfl,rfl,rfl,Nat.le_refl _,fun _ _=>rfl⟩⟩
end Go.Proofs.YtlaiadheelgbdaaGreat.Ca
namespace Go.Proofs.YtlaiadheelgbdaaGreat.Ca
open Go.ChangeShapes Go.WideShapes Go.ChangeAt Go.RowKit Go.Maps
set_option linter.unusedSimpArgs false
set_option linter.unusedVariables false
set_option maxRecDepth 8000
end Go.Proofs.YtlaiadheelgbdaaGreat.Ca
namespace Go.Proofs.YtlaiadheelgbdaaGreat.Ca
open Go.ChangeShapes Go.WideShapes Go.ChangeAt Go.RowKit Go.Maps
set_option linter.unusedSimpArgs false
set_option linter.unusedVariables false
set_option maxRecDepth 8000
theorem nodup_len: ∀ (n:Nat) (L:List Int),L.Nodup->(∀ x∈L,0<=x/\x<(n:Int))->L.length<=n
 | 0, L, _, h => by
  cases L with
  | nil => simp
  | cons x r => have := h x (by simp); omega
 | n + 1, L, hd, h => by
  by_cases c:(n:Int)∈L
  . have:=nodup_len n (L.erase (n:Int)) (hd.erase _) (fun x hx=>by
     rw [hd.mem_erase_iff] at hx
     have:=h x hx.2
     have:=hx.1
     omega)
    rw [List.length_erase_of_mem c] at this
    omega
  . have:=nodup_len n L hd (fun x hx=>by
     have:=h x hx
     have:x≠(n:Int):=fun e=>c (e ▸ hx)
     omega)
    omega
structure Good (S:Qu):Prop where
 q0:1<=S.q
 q1:S.q<=1000
 t0:0<=S.t
 t1:S.t<S.q
 one:S.L.Nodup
 who: ∀ x∈S.L,0<=x/\x<16
 idle:S.L=[]->S.t=0
theorem Good.room {S:Qu} (h:Good S) {p:Int} (p0:0<=p) (p1:p<16) (hp:p∉S.L):S.L.length<16:=by
 have:=nodup_len 16 (p::S.L) (List.nodup_cons.2 ⟨hp,h.one⟩) (fun x hx=>by
  rcases List.mem_cons.1 hx with rfl | hx
  . exact ⟨p0,p1⟩
  . exact h.who x hx)
 simp at this;omega
def addE (S:Qu) (p:Int):Int:=if p<0\/16<=p then 1 else if p∈S.L then 6 else 0
def addS (S:Qu) (p:Int):Qu:=if p<0\/16<=p then S else if p∈S.L then S else ⟨S.q,S.t,S.L++[p]⟩
set_option maxHeartbeats 1000000 in
theorem add_any (b:Nat) (S:Qu) (p:Int) (g:Good S) (w:World) (h:IsQ w b S):Calls Tryz.prog 35 #[.pointer (some ⟨b,0,none⟩),.int .i64 p] w fun e w'=>e=.returned (.int .i64 (addE S p))/\IsQ w' b (addS S p)/\Kb b w w':=by
 have H:Hid (IsQ w b S):=h
 have lt0:=blk_lt h.blk
 clear h
 by_cases c1:p<0
 . have d1:decide (p<0)=true:=by simp [c1]
   rw [addE,addS,if_pos (Or.inl c1),if_pos (Or.inl c1)]
   go_enter Tryz.func35,Tryz.ntmps35
   go_wp2_with fail
   go_returns
   exact ⟨rfl,H.out,Kb.refl _ _⟩
 have d1:decide (p<0)=false:=by simp;omega
 by_cases c2:16<=p
 . have d2:decide (16<=p)=true:=by simp [c2]
   rw [addE,addS,if_pos (Or.inr c2),if_pos (Or.inr c2)]
   go_enter Tryz.func35,Tryz.ntmps35
   go_wp2_with fail
   go_returns
   exact ⟨rfl,H.out,Kb.refl _ _⟩
 have d2:decide (16<=p)=false:=by simp;omega
 have cc: ¬ (p<0\/16<=p):=by omega
 rw [addE,addS,if_neg cc,if_neg cc]
 obtain ⟨q,t,L⟩:=S
 have PL:Hid (∀ W:World,IsQ W b ⟨q,t,L⟩->Calls Tryz.prog 66 #[.pointer (some ⟨b,0,none⟩),.int .i64 p] W fun e w'=>e=.returned (.int .i64 (plc L p))/\Below W.heap.size W w'):=fun W k=>place_any b q t L p W k
 by_cases e:p∈L
 . simp only [if_pos e]
   have hp:plc L p=(fstAt L p:Int):=if_pos (fst_lt.2 e)
   rw [hp] at PL
   generalize fstAt L p=k at PL
   have d3:decide (0<=(k:Int))=true:=by simp
   clear g e hp
   go_enter Tryz.func35,Tryz.ntmps35
   go_wp2_with fail
   refine (PL.out _ H.out).mono ?_
   rintro e u ⟨rfl,hb⟩
   have B1:Hid (Below w.heap.size w u):=hb
   clear hb
   go_wp2_with fail
   go_returns
   exact ⟨rfl,H.out.below B1.out,Kb.below B1.out⟩
 . simp only [if_neg e]
   have hp:plc L p= -1:=if_neg (fun z=>e (fst_lt.1 z))
   rw [hp] at PL
   have rm:L.length<16:=g.room (by omega) (by omega) e
   have PU:Hid (∀ W:World,IsQ W b ⟨q,t,L⟩->Calls Tryz.prog 62 #[.pointer (some ⟨b,0,none⟩),.int .i64 p] W fun e w'=>e=.returned (.tuple #[])/\IsQ w' b ⟨q,t,L++[p]⟩/\Kb b W w'):=fun W k=>push_any b q t p L rm W k
   clear g e hp rm
   go_enter Tryz.func35,Tryz.ntmps35
   go_wp2_with fail
   refine (PL.out _ H.out).mono ?_
   rintro e u ⟨rfl,hb⟩
   have B1:Hid (Below w.heap.size w u):=hb
   clear hb
   go_wp2_with fail
   refine (PU.out _ (H.out.below B1.out)).mono ?_
   rintro e u2 ⟨rfl,h2,k2⟩
   have H2:Hid (IsQ u2 b ⟨q,t,L++[p]⟩):=h2
   have K2:Hid (Kb b w u2):=(Kb.below B1.out).trans k2
   clear h2 k2
   go_wp2_with fail
   go_returns
   exact ⟨rfl,H2.out,K2.out⟩
end Go.Proofs.YtlaiadheelgbdaaGreat.Ca
