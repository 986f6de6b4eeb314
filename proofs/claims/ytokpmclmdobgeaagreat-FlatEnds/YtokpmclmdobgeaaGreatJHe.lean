import Derived.Test.YtokpmclmdobgeaaGreatKZe
import Derived.Test.YtokpmclmdobgeaaGreatChecked
import Derived.WalkKit
import Derived.ProofKit
import Derived.OpenShut
import Derived.Carry
import Derived.Lib.SmallJoins
import Derived.Deep.Light
import Derived.Deep.MidRow
import Derived.Deep.RegionHeld3
import Derived.Deep.DrawnRows
import Derived.Handy
import Derived.Laws.MakeOwn
import Derived.MapKept
import Derived.Laws.Tables
import Derived.Laws.CopyRow
import Derived.BigQuiet
import Derived.Deep.QuietTactic
import Derived.Maps.AppendAt
import Derived.Deep.Slices
import Derived.Deep.RegionLaw
set_option linter.unusedSimpArgs false
set_option linter.unusedVariables false
set_option maxRecDepth 8000
set_option maxHeartbeats 1000000
open Go.ChangeShapes Go.WideShapes Go.ChangeAt Go.RowKit Go.Maps
namespace Go.Proofs.YtokpmclmdobgeaaGreat.Ca
theorem own1 (w:World) (o:Obj):(w.alloc o).heap[w.heap.size]? =some o:=(MapKept.heap_alloc w o).1
section
variable {w:World} {b:Nat}
theorem blk_lt {o:Obj} (h:w.heap[b]? =some o):b<w.heap.size:=(Array.getElem?_eq_some_iff.1 h).1
structure Kb (x:Nat) (w w':World):Prop where
 os:w'.os=w.os
 tape:w'.tape=w.tape
 output:w'.output=w.output
 size:w.heap.size<=w'.heap.size
 block: ∀ k,k<w.heap.size->k≠x->w'.heap[k]? =w.heap[k]?
theorem Kb.refl (x:Nat) (w:World):Kb x w w:=⟨rfl,rfl,rfl,Nat.le_refl _,fun _ _ _=>rfl⟩
theorem Kb.trans {x:Nat} {a b c:World} (h:Kb x a b) (k:Kb x b c):Kb x a c :=
 ⟨k.os.trans h.os,k.tape.trans h.tape,k.output.trans h.output,Nat.le_trans h.size k.size,fun j hj h1=>(k.block j (nla hj h.size) h1).trans (h.block j hj h1)⟩
theorem Kb.below {x:Nat} {a b:World} (h:bc a b):Kb x a b:=⟨h.os,h.tape,h.output,h.size,fun j hj _=>h.block j hj⟩
theorem Kb.drew {x:Nat} {a b:World} (h:Kb x a b):Kb x a b.drew:=⟨h.os,h.tape,h.output,h.size,h.block⟩
theorem Kb.set (w:World) (b o:Nat) (v:Value):Kb b w (w.setCell ⟨b,o,none⟩ v):=by
 have h:Below 0 w (w.setCell ⟨b,o,none⟩ v):=(Below.refl 0 w).setCell (Nat.zero_le _) v
 exact ⟨h.os,h.tape,h.output,h.size,fun k hk hne=>Below.heap_setCell _ _ _ _ hne⟩
theorem Kb.row (w:World) (b:Nat) (cs:Array Value):Kb b w (w.setRow b cs) :=
 ⟨rfl,rfl,rfl,by rw [setRow_size];exact Nat.le_refl _,fun k hk hne=>setRow_other w b k cs hne⟩
theorem Kb.cell {x:Nat} {a b:World} (h:Kb x a b) {k i:Nat} (l:k<a.heap.size) (h1:k≠x):b.cell? ⟨k,i,none⟩=a.cell? ⟨k,i,none⟩:=World.cell?_of_block (h.block k l h1)
structure Qu where
 q:Int
 t:Int
 L:List Int
def pad (L:List Int):List Int:=L++List.replicate (16-L.length) 0
def Qu.nums (S:Qu):List Int:=S.q::S.t::(S.L.length:Int)::pad S.L
def Qu.cells (S:Qu):List Value:=S.nums.map (Value.int .i64)
structure IsQ (w:World) (b:Nat) (S:Qu):Prop where
 blk:w.heap[b]? =some (.cells S.cells.toArray 94 (0,0))
 few:S.L.length<=16
theorem pad_len {L:List Int} (h:L.length<=16):(pad L).length=16:=by simp [pad];omega
theorem IsQ.kept {w w':World} {b:Nat} {S:Qu} (h:IsQ w b S) (hb:b<w.heap.size->w'.heap[b]? =w.heap[b]?):IsQ w' b S:=⟨(hb (blk_lt h.blk)).trans h.blk,h.few⟩
theorem IsQ.below {w w':World} {b:Nat} {S:Qu} (h:IsQ w b S) (hb:bc w w'):IsQ w' b S:=h.kept (fun l=>hb.block b l)
theorem IsQ.cell {S:Qu} (h:IsQ w b S) (i:Nat):w.cell? ⟨b,i,none⟩=(S.nums[i]?).map (Value.int .i64):=by
 rw [Go.Joins.cell_of_block h.blk i];simp [Qu.cells]
theorem IsQ.free {S:Qu} (h:IsQ w b S) (i:Nat):w.frozen? ⟨b,i,none⟩=false:=Go.Joins.unfrozen_of_block h.blk i
theorem IsQ.c0 {S:Qu} (h:IsQ w b S):w.cell? ⟨b,0,none⟩=some (.int .i64 S.q):=h.cell 0
theorem IsQ.c1 {S:Qu} (h:IsQ w b S):w.cell? ⟨b,1,none⟩=some (.int .i64 S.t):=h.cell 1
theorem IsQ.c2 {S:Qu} (h:IsQ w b S):w.cell? ⟨b,2,none⟩=some (.int .i64 (S.L.length:Int)):=h.cell 2
theorem IsQ.cl {S:Qu} (h:IsQ w b S) (i:Nat) (hi:i<S.L.length):w.cell? ⟨b,3+i,none⟩=some (.int .i64 (S.L[i])):=by
 rw [h.cell (3+i),show 3+i=i+1+1+1 by omega]
 simp [Qu.nums,pad,List.getElem?_append_left hi]
theorem IsQ.there {S:Qu} (h:IsQ w b S) (i:Nat) (hi:i<16): ∃ v,w.cell? ⟨b,3+i,none⟩=some (.int .i64 v):=by
 rw [h.cell (3+i),show 3+i=i+1+1+1 by omega]
 have:=pad_len h.few
 exact ⟨(pad S.L)[i],by simp [Qu.nums,List.getElem?_eq_getElem (show i<(pad S.L).length by omega)]⟩
def Own (w W:World) (b:Nat) (S:Qu):Prop:=IsQ W b S/\bc w W/\w.heap.size<=b
theorem nums_set {S S':Qu} {i:Nat} {v:Int} (h:S.nums.set i v=S'.nums):S.cells.toArray.setIfInBounds i (.int .i64 v)=S'.cells.toArray:=by
 rw [Qu.cells,Qu.cells,<- h]
 simp [List.map_set]
theorem IsQ.turn {w:World} {b i:Nat} {S S':Qu} {v:Int} (h:IsQ w b S) (e:S.nums.set i v=S'.nums) (f:S'.L.length<=16):IsQ (w.setCell ⟨b,i,none⟩ (.int .i64 v)) b S':=by
 refine ⟨?_,f⟩
 rw [Go.Joins.block_setCell h.blk,nums_set e]
theorem IsQ.tick {S:Qu} (h:IsQ w b S) (v:Int):IsQ (w.setCell ⟨b,1,none⟩ (.int .i64 v)) b ⟨S.q,v,S.L⟩:=h.turn rfl h.few
structure IsN (w:World) (b:Nat) (N:List Int):Prop where
 blk:w.heap[b]? =some (.cells (N.map (Value.int .i64)).toArray 94 (0,0))
 many:N.length=19
theorem IsQ.n {S:Qu} (h:IsQ w b S):IsN w b S.nums:=⟨h.blk,by simp [Qu.nums,pad_len h.few]⟩
theorem IsN.q {N:List Int} {S:Qu} (h:IsN w b N) (e:N=S.nums) (f:S.L.length<=16):IsQ w b S:=⟨by rw [h.blk,e];rfl,f⟩
theorem IsN.cell {N:List Int} (h:IsN w b N) (i:Nat):w.cell? ⟨b,i,none⟩=(N[i]?).map (Value.int .i64):=by
 rw [Go.Joins.cell_of_block h.blk i];simp
theorem IsN.free {N:List Int} (h:IsN w b N) (i:Nat):w.frozen? ⟨b,i,none⟩=false:=Go.Joins.unfrozen_of_block h.blk i
theorem IsN.set {N:List Int} (h:IsN w b N) (i:Nat) (v:Int):IsN (w.setCell ⟨b,i,none⟩ (.int .i64 v)) b (N.set i v):=by
 refine ⟨?_,by simp [h.many]⟩
 rw [Go.Joins.block_setCell h.blk]
 simp [List.map_set]
theorem IsN.row {N M:List Int} (h:IsN w b N) (hM:M.length=19) (cs:Array Value) (hc:cs=(M.map (Value.int .i64)).toArray):IsN (w.setRow b cs) b M:=by
 subst hc
 exact ⟨setRow_heap w b _ _ _ _ h.blk,hM⟩
theorem IsN.kept {w w':World} {b:Nat} {N:List Int} (h:IsN w b N) (hb:b<w.heap.size->w'.heap[b]? =w.heap[b]?):IsN w' b N:=⟨(hb (blk_lt h.blk)).trans h.blk,h.many⟩
theorem new_ok (q:Int) (h0:1<=q) (h1:q<=1000) (w:World):Calls Tryz.prog 13 #[.int .i64 q] w fun e w'=>e=.returned (.tuple #[.pointer (some ⟨w.heap.size,0,none⟩),.int .i64 0])/\Own w w' w.heap.size ⟨q,0,[]⟩:=by
 have e1:decide (q<1)=false:=kg
 have e2:decide (1000<q)=false:=kg
 go_enter Tryz.func13,Tryz.ntmps13
 go_wp2_with fail
 go_returns
 refine ⟨rfl,⟨?_,by simp⟩,baa,Nat.le_refl _⟩
 exact own1 w _
def nowV (L:List Int):Int:=match L with | []=>0 | x::_=>x
def nowB (L:List Int):Bool:=match L with | []=>false | _::_=>true
theorem now_any (b:Nat) (S:Qu) (w:World) (h:IsQ w b S):Calls Tryz.prog 18 #[.pointer (some ⟨b,0,none⟩)] w (re (.tuple #[.int .i64 (nowV S.L),.bool (nowB S.L)]) w):=by
 have lt0:=blk_lt h.blk
 have c2:=h.c2
 obtain ⟨q,t,L⟩:=S
 cases L with
 | nil =>
  have e0:(((0:Nat):Int)==0)=true:=rfl
  have c2':w.cell? ⟨b,2,none⟩=some (.int .i64 0):=c2
  clear h c2
  go_enter Tryz.func18,Tryz.ntmps18
  go_wp2_with fail
  go_returns
  exact ⟨rfl,Below.refl _ _⟩
 | cons x r =>
  have c3:w.cell? ⟨b,3,none⟩=some (.int .i64 x):=h.cl 0 (by simp)
  obtain ⟨m,hm⟩: ∃ m:Int,m=(((x::r).length:Nat):Int):=⟨_,rfl⟩
  have m0:(m==0)=false:=by rw [hm];simp;omega
  have m1: ¬ m=0:=by rw [hm];simp;omega
  have c2':w.cell? ⟨b,2,none⟩=some (.int .i64 m):=by rw [hm];exact c2
  clear h c2 hm
  go_enter Tryz.func18,Tryz.ntmps18
  go_wp2_with fail
  go_returns
  exact ⟨rfl,Below.refl _ _⟩
theorem nums_push (q t p:Int) (L:List Int) (h:L.length<16):((Qu.nums ⟨q,t,L⟩).set (3+L.length) p).set 2 ((L.length:Int)+1)=Qu.nums ⟨q,t,L++[p]⟩:=by
 have e:16-L.length=(16-(L.length+1))+1:=by omega
 have e3:3+L.length=L.length+1+1+1:=by omega
 simp only [Qu.nums,pad,e,e3,List.set_cons_succ,List.set_cons_zero,List.replicate_succ,List.length_append,List.length_singleton,List.append_assoc,List.singleton_append]
 simp
theorem push_any (b:Nat) (q t p:Int) (L:List Int) (hL:L.length<16) (w:World) (h:IsQ w b ⟨q,t,L⟩):Calls Tryz.prog 42 #[.pointer (some ⟨b,0,none⟩),.int .i64 p] w fun e w'=>e=.returned (.tuple #[])/\IsQ w' b ⟨q,t,L++[p]⟩/\Kb b w w':=by
 have H:Hid (IsQ w b ⟨q,t,L⟩):=h
 have lt0:=blk_lt h.blk
 have c2:=h.c2
 obtain ⟨v,cv⟩:=h.there L.length hL
 have fz:w.frozen? ⟨b,3+L.length,none⟩=false:=h.free _
 have f2:w.frozen? ⟨b,2,none⟩=false:=h.free _
 have NP:=nums_push q t p L hL
 simp only at c2 cv
 clear h
 have HN:Hid (∀ W:World,IsN W b (((Qu.nums ⟨q,t,L⟩).set (3+L.length) p).set 2 ((L.length:Int)+1))->IsQ W b ⟨q,t,L++[p]⟩):=fun W k=>k.q NP kg
 clear NP
 have H1:Hid (IsN w b (Qu.nums ⟨q,t,L⟩)):=H.out.n
 clear H
 generalize Qu.nums ⟨q,t,L⟩=N at H1 HN
 generalize L.length=n at *
 have d1:decide ((n:Int)<16)=true:=kg
 have d0:decide ((n:Int)<0)=false:=by simp
 go_enter Tryz.func42,Tryz.ntmps42
 go_wp2_with fail
 go_region
 all_goals (go_wp2_with fail)
 all_goals (go_returns)
 all_goals (exact ⟨rfl,HN.out _ (((H1.out.set _ _).set _ _).kept (fun _=>rfl)),((Kb.set _ _ _ _).trans (Kb.set _ _ _ _)).drew⟩)
def fstAt (L:List Int) (p:Int):Nat:=L.findIdx (· ==p)
theorem fst_le (L:List Int) (p:Int):fstAt L p<=L.length:=List.findIdx_le_length
theorem fst_no {L:List Int} {p:Int} {j:Nat} (h:j<fstAt L p): ∃ hj:j<L.length,¬ L[j]=p:=by
 have l:=nla h (fst_le L p)
 refine ⟨l,?_⟩
 have:=List.not_of_lt_findIdx h
 simpa using this
theorem fst_yes {L:List Int} {p:Int} (h:fstAt L p<L.length):L[fstAt L p]=p:=by
 have:=List.findIdx_getElem (p:=(· ==p)) (xs:=L) (w:=h)
 show L[List.findIdx (· ==p) L]'h=p
 simpa using this
theorem fst_lt {L:List Int} {p:Int}:fstAt L p<L.length↔p∈L:=by
 constructor
 . intro h;have:=fst_yes h;rw [<- this];exact List.getElem_mem _
 . intro h;exact List.findIdx_lt_length_of_exists ⟨p,h,by simp⟩
def plc (L:List Int) (p:Int):Int:=if fstAt L p<L.length then (fstAt L p:Int) else -1
theorem index_raw (b n k0:Nat) (A:Nat->Int) (p r:Int) (hL:n<=16) (hle:k0<=n) (w:World) (hw:b<w.heap.size) (HC:Hid (∀ i,i<n->w.cell? ⟨b,3+i,none⟩=some (.int .i64 (A i))))
 (HR:Hid (∀ j,j<k0-> ¬ A j=p)) (HY:Hid (k0<n->A k0=p)) (HP:Hid (r=if k0<n then (k0:Int) else -1)) :
 Calls Tryz.prog 70 #[.slice (some ⟨b,3,none⟩) n 16,.int .i64 p] w fun e w'=>e=.returned (.int .i64 r)/\w'=w:=by
 go_enter Tryz.func70,Tryz.ntmps70
 go_wp2_with fail
 go_loopw [8] (fun x W=> ∃ k:Nat,k<=k0/\x=.int .i64 k/\W=w) (fun x _=>n-(intOf x).toNat)
 case atStart=>exact ⟨0,by omega,rfl,rfl⟩
 case round =>
  obtain ⟨k,hk,rfl,rfl⟩:=hrel
  by_cases hlt:k<n
  . have hd:decide ((k:Int)<(n:Int))=true:=by simp;omega
    have hdk:(decide ((k:Int)<0))=false:=by simp
    obtain ⟨v,hv⟩: ∃ v,v=A k:=⟨_,rfl⟩
    have c0:wr.cell? ⟨b,3+k,none⟩=some (.int .i64 v):=by rw [hv];exact HC.out k hlt
    by_cases e:k<k0
    . have e1: ¬ p=v:=by rw [hv];exact fun z=>HR.out k e z.symm
      have e2:(p==v)=false:=by simp [e1]
      clear hv
      go_wp2_with fail
      go_roundw
      case rel=>exact ⟨k+1,by omega,by go_num,trivial⟩
      case measure=>simp [intOf];omega
    . obtain rfl:k=k0:=by omega
      have e1:v=p:=by rw [hv];exact HY.out hlt
      subst e1
      clear hv
      have e2:(v==v)=true:=by simp
      go_wp2_with fail
      go_ret
      exact ⟨by rw [HP.out,if_pos hlt];rfl,rfl⟩
  . obtain rfl:k=n:=by omega
    have hd:decide ((k:Int)<(k:Int))=false:=by simp
    go_wp2_with fail
    go_ret
    exact ⟨by rw [HP.out,if_neg (by omega)];rfl,rfl⟩
theorem index_any (b:Nat) (L:List Int) (p:Int) (hL:L.length<=16) (w:World) (hw:b<w.heap.size) (hc: ∀ i (hi:i<L.length),w.cell? ⟨b,3+i,none⟩=some (.int .i64 L[i])) :
 Calls Tryz.prog 70 #[.slice (some ⟨b,3,none⟩) L.length 16,.int .i64 p] w fun e w'=>e=.returned (.int .i64 (plc L p))/\w'=w:=by
 have at': ∀ i (hi:i<L.length),L[i]?.getD 0=L[i]:=fun i hi=>by rw [List.getElem?_eq_getElem hi];rfl
 refine index_raw b L.length (fstAt L p) (fun i=>L[i]?.getD 0) p _ hL (fst_le L p) w hw (fun i hi=> ?_) (fun j hj=> ?_) (fun h=> ?_) rfl
 . show _=some (Value.int .i64 (L[i]?.getD 0));rw [at' i hi];exact hc i hi
 . obtain ⟨l,e⟩:=fst_no hj
   show ¬ L[j]?.getD 0=p;rw [at' j l];exact e
 . show L[fstAt L p]?.getD 0=p;rw [at' _ h];exact fst_yes h
theorem place_any (b:Nat) (q t:Int) (L:List Int) (p:Int) (w:World) (h:IsQ w b ⟨q,t,L⟩) :
 Calls Tryz.prog 41 #[.pointer (some ⟨b,0,none⟩),.int .i64 p] w (re (.int .i64 (plc L p)) w):=by
 have HI:Hid (∀ W:World,b<W.heap.size->(∀ i (hi:i<L.length),W.cell? ⟨b,3+i,none⟩=some (.int .i64 L[i]))->Calls Tryz.prog 70 #[.slice (some ⟨b,3,none⟩) L.length 16,.int .i64 p] W fun e w'=>e=.returned (.int .i64 (plc L p))/\w'=W):=fun W a c=>index_any b L p h.few W a c
 have lt0:=blk_lt h.blk
 have c2:=h.c2
 have few:=h.few
 simp only at few c2
 have HC:Hid (∀ i (hi:i<L.length),w.cell? ⟨b,3+i,none⟩=some (.int .i64 L[i])):=fun i hi=>h.cl i hi
 clear h
 have n0:(0:Int)<=(L.length:Int):=by omega
 have n1:(L.length:Int)<=16:=by omega
 obtain ⟨r,hr⟩: ∃ r,r=plc L p:=⟨_,rfl⟩
 rw [<- hr] at HI |-
 clear hr
 go_enter Tryz.func41,Tryz.ntmps41
 go_wp2_with fail
 go_quiet ((go_at_call 70;refine Calls.quiet_of_same (HI.out _ lt0 HC.out)))
 go_wp2_with fail
 go_returns
 exact ⟨rfl,⟨rfl,rfl,rfl,Nat.le_refl _,fun _ _=>rfl⟩⟩
def copyN (N:List Int) (i m:Nat):List Int:=N.take (3+i)++(N.drop (3+i+1)).take m++N.drop (3+i+m)
theorem copyN_len (N:List Int) (i m:Nat) (h:N.length=19) (hm:i+m<16):(copyN N i m).length=19:=by
 simp [copyN,h];omega
theorem lenA:Tryz.prog.arrayLen 92=16:=kc
theorem elemA:Tryz.prog.elem 92=3:=kc
theorem sizeI (W:World):(sizeOf 3).run Tryz.prog W=.ok 1 W:=kc
theorem slice_l (b i m:Nat) (hi:i+m=16) (hm:0<m) (W:World):(Instr.sliceAt 92 (.pointer (some ⟨b,3,none⟩)) (some (.int .i64 (i:Int))) none none).run Tryz.prog W=.ok (.slice (some ⟨b,3+i,none⟩) m m) W:=by
 rw [run_sliceAt_array_l W _ _ kc .i64 (i:Int) (by omega) (by rw [lenA];omega),elemA,sizeI,lenA]
 have e:(i:Int).toNat=i:=by simp
 have e2:16-i=m:=by omega
 show Result.ok (slicedAt _ _ _ _ _) W=_
 rw [slicedAt,e,e2,if_neg (by omega)]
 have:(Addr.add ⟨b,3,none⟩ (i*1))=⟨b,3+i,none⟩:=by
  unfold Addr.add
  by_cases c:i*1=0
  . rw [if_pos c];simp at c;subst c;rfl
  . rw [if_neg c];simp
 rw [this]
theorem slice_lh (b i n m c:Nat) (hi:i+m=n) (hn:n<16) (hc:i+1+c=16): ∃ a:Addr,(0<m->a=⟨b,3+i+1,none⟩)/\ ∀ (W:World),(Instr.sliceAt 92 (.pointer (some ⟨b,3,none⟩)) (some (.int .i64 ((i:Int)+1))) (some (.int .i64 ((n:Int)+1))) none).run Tryz.prog W=.ok (.slice (some a) m c) W:=by
 refine ⟨if 16=i+1 then ⟨b,3,none⟩ else Addr.add ⟨b,3,none⟩ ((i+1)*1),?_,?_⟩
 . intro h0
   rw [if_neg (by omega)]
   unfold Addr.add
   rw [if_neg (by omega)];simp;omega
 . intro W
   rw [run_sliceAt_array_lh W _ _ kc .i64 .i64 ((i:Int)+1) ((n:Int)+1) (by omega) (by omega) (by rw [lenA];omega),elemA,sizeI,lenA]
   have e:((i:Int)+1).toNat=i+1:=by omega
   have e1:((n:Int)+1).toNat=n+1:=by omega
   have e2:n+1-(i+1)=m:=by omega
   have e3:16-(i+1)=c:=by omega
   show Result.ok (slicedAt _ _ _ _ _) W=_
   rw [slicedAt,e,e1,e2,e3]
theorem copy_run (b i m c d:Nat) (a:Addr) (N:List Int) (hi:i+m<16) (hd:m<=d) (ha:0<m->a=⟨b,3+i+1,none⟩) (W:World) (h:IsN W b N) :
 (Builtin.copy_ #[41,41] 3 #[.slice (some ⟨b,3+i,none⟩) d d,.slice (some a) m c]).run Tryz.prog W=.ok (.int .i64 (m:Int)) (W.setRow b ((copyN N i m).map (Value.int .i64)).toArray):=by
 have hl:((N.drop (3+i+1)).take m).length=m:=by have:=h.many;simp;omega
 have r:=run_copy_row (P:=Tryz.prog) W 41 41 3 3 b (3+i) d d a m c _ 94 (((N.drop (3+i+1)).take m).map (Value.int .i64))
  Tryz.underlying41 kc h.blk (by rw [List.length_map,hl];exact (Nat.min_eq_left hd).symm) ?_ (by rw [List.length_map,hl];have:=h.many;simp;omega) ?_
 . rw [r,List.length_map,hl]
   have:(copyN N i m).map (Value.int .i64)=(((N.map (Value.int .i64)).toArray.toList.take (3+i))++(((N.drop (3+i+1)).take m).map (Value.int .i64))++((N.map (Value.int .i64)).toArray.toList.drop (3+i+m))):=by
    simp [copyN,List.map_take,List.map_drop]
   rw [this];rfl
 . intro j v hj
   rw [List.getElem?_map] at hj
   have hjm:j<m:=by
    by_cases q:j<m
    . exact q
    . rw [List.getElem?_eq_none (by rw [hl];omega)] at hj;cases hj
   rw [List.getElem?_take,if_pos hjm,List.getElem?_drop] at hj
   rw [ha (by omega)]
   have:(Addr.add ⟨b,3+i+1,none⟩ j)=⟨b,3+i+1+j,none⟩:=by
    unfold Addr.add
    by_cases q:j=0
    . rw [if_pos q];subst q;rfl
    . rw [if_neg q]
   rw [this,h.cell];exact hj
 . intro v hv
   obtain ⟨x,_,rfl⟩:=List.mem_map.1 hv
   rfl
theorem drop_raw (b i n:Nat) (N:List Int) (hi:i<=n) (hn:n<16) (hN:N[2]? =some ((n:Int)+1)) (w:World) (h:IsN w b N):Calls Tryz.prog 67 #[.pointer (some ⟨b,0,none⟩),.int .i64 i] w fun e w'=>e=.returned (.tuple #[])/\(∃ M,M=(if i=0 then (((copyN N i (n-i)).set 2 (n:Int)).set (3+n) 0).set 1 0 else ((copyN N i (n-i)).set 2 (n:Int)).set (3+n) 0)/\IsN w' b M)/\Kb b w w':=by
 have lt0:=blk_lt h.blk
 have c2:w.cell? ⟨b,2,none⟩=some (.int .i64 ((n:Int)+1)):=by rw [h.cell 2,hN];rfl
 obtain ⟨m,hm⟩: ∃ m,m=n-i:=⟨_,rfl⟩
 obtain ⟨d,hd⟩: ∃ d,d=16-i:=⟨_,rfl⟩
 obtain ⟨c,hc⟩: ∃ c,c=16-(i+1):=⟨_,rfl⟩
 rw [<- hm]
 have s1:=slice_l b i d (by omega) (by omega)
 obtain ⟨a,ha,s2⟩:=slice_lh b i n m c (by omega) hn (by omega)
 have HD:IsN w.drew b N:=h.kept (fun _=>rfl)
 have r:=copy_run b i m c d a N (by omega) (by omega) ha w.drew HD
 have H1:=HD.row (copyN_len N i m h.many (by omega)) ((copyN N i m).map (Value.int .i64)).toArray rfl
 have K1:Kb b w (w.drew.setRow b ((copyN N i m).map (Value.int .i64)).toArray):=(Kb.drew (Kb.refl b w)).trans (Kb.row _ _ _)
 generalize w.drew.setRow b ((copyN N i m).map (Value.int .i64)).toArray=w1 at r H1 K1
 have M2:(copyN N i m)[2]? =some ((n:Int)+1):=by
  rw [copyN,List.append_assoc,List.getElem?_append_left (by have:=h.many;simp;omega),List.getElem?_take,if_pos (by omega)];exact hN
 have ML:=copyN_len N i m h.many (by omega)
 generalize copyN N i m=M at H1 M2 ML |-
 have e2:w1.cell? ⟨b,2,none⟩=some (.int .i64 ((n:Int)+1)):=by rw [H1.cell 2,M2];rfl
 have f2:w1.frozen? ⟨b,2,none⟩=false:=H1.free _
 have f1:w1.frozen? ⟨b,1,none⟩=false:=H1.free _
 have fn:w1.frozen? ⟨b,3+n,none⟩=false:=H1.free _
 obtain ⟨v1,cv1⟩: ∃ v,w1.cell? ⟨b,1,none⟩=some (.int .i64 v):=⟨M[1],by rw [H1.cell 1,List.getElem?_eq_getElem (by omega)];rfl⟩
 obtain ⟨vn,cvn⟩: ∃ v,w1.cell? ⟨b,3+n,none⟩=some (.int .i64 v):=⟨M[3+n],by rw [H1.cell (3+n),List.getElem?_eq_getElem (by omega)];rfl⟩
 have lt1:b<w1.heap.size:=blk_lt H1.blk
 have HH:Hid (IsN w1 b M):=H1
 have KK:Hid (Kb b w w1):=K1
 have HZ:Hid (i+m=n):=by show i+m=n;omega
 clear H1 K1 HD h ha hN hm hd hc
 have q1:IntKind.i64.wrap ((i:Int)+1)=(i:Int)+1:=by rw [IntKind.wrap_i64];omega
 by_cases z:i=0
 . rw [if_pos z]
   have z2:((i:Int)==0)=true:=by simp [z]
   clear z
   go_enter Tryz.func67,Tryz.ntmps67
   go_wp2_with fail
   go_region
   all_goals (go_wp2_with fail)
   all_goals (go_region)
   all_goals (go_wp2_with fail)
   all_goals (go_returns)
   all_goals (exact ⟨rfl,⟨_,rfl,(((HH.out.set _ _).set _ _).set _ _).kept (fun _=>rfl)⟩,KK.out.trans (((Kb.set _ _ _ _).trans (Kb.set _ _ _ _)).trans (Kb.set _ _ _ _)).drew⟩)
 . rw [if_neg z]
   have z2:((i:Int)==0)=false:=by simp [z]
   have z3: ¬ (i:Int)=0:=by omega
   go_enter Tryz.func67,Tryz.ntmps67
   go_wp2_with fail
   go_region
   all_goals (go_wp2_with fail)
   all_goals (go_region)
   all_goals (go_wp2_with fail)
   all_goals (go_returns)
   all_goals (exact ⟨rfl,⟨_,rfl,((HH.out.set _ _).set _ _).kept (fun _=>rfl)⟩,KK.out.trans ((Kb.set _ _ _ _).trans (Kb.set _ _ _ _)).drew⟩)
theorem nums_copy (q t:Int) (L:List Int) (i n:Nat) (hn:L.length=n+1) (hi:i<=n) (h16:n<16):((copyN (Qu.nums ⟨q,t,L⟩) i (n-i)).set 2 (n:Int)).set (3+n) 0=Qu.nums ⟨q,t,L.eraseIdx i⟩:=by
 have le:(L.eraseIdx i).length=n:=by rw [List.length_eraseIdx,if_pos (by omega)];omega
 have hp:pad L=L++List.replicate (15-n) 0:=by rw [pad,hn];congr 2;omega
 have h1:(pad L).take i=L.take i:=by rw [hp,List.take_append_of_le_length (by omega)]
 have h2:((pad L).drop (i+1)).take (n-i)=L.drop (i+1):=by
  rw [hp,List.drop_append_of_le_length (by omega),List.take_append_of_le_length kg,List.take_of_length_le kg]
 have h3:(pad L).drop n=L.drop n++List.replicate (15-n) 0:=by rw [hp,List.drop_append_of_le_length (by omega)]
 have h4:copyN (Qu.nums ⟨q,t,L⟩) i (n-i)=q::t::((n+1:Nat):Int)::(L.eraseIdx i++(L.drop n++List.replicate (15-n) 0)):=by
  rw [List.eraseIdx_eq_take_drop_succ,copyN,Qu.nums,show 3+i+1=(i+1)+1+1+1 by omega,show 3+i+(n-i)=n+1+1+1 by omega,show 3+i=i+1+1+1 by omega]
  simp only [List.take_succ_cons,List.drop_succ_cons,List.cons_append,h1,h2,h3,hn,List.append_assoc]
 have h5: ∃ x,L.drop n=[x]:=by
  have:(L.drop n).length=1:=by simp [hn]
  exact List.length_eq_one_iff.1 this
 obtain ⟨x,hx⟩:=h5
 rw [h4,hx,show 3+n=n+1+1+1 by omega]
 simp only [List.set_cons_succ,List.set_cons_zero]
 rw [List.set_append_right _ _ (by omega),le,Nat.sub_self]
 simp only [Qu.nums,pad,le,List.singleton_append,List.set_cons_zero]
 rw [show 16-n=(15-n)+1 by omega,List.replicate_succ]
theorem drop_any (b i:Nat) (q t:Int) (L:List Int) (hi:i<L.length) (w:World) (h:IsQ w b ⟨q,t,L⟩):Calls Tryz.prog 67 #[.pointer (some ⟨b,0,none⟩),.int .i64 i] w fun e w'=>e=.returned (.tuple #[])/\IsQ w' b ⟨q,if i=0 then 0 else t,L.eraseIdx i⟩/\Kb b w w':=by
 obtain ⟨n,hn⟩: ∃ n,L.length=n+1:=⟨L.length-1,by omega⟩
 have few:=h.few
 have le:(L.eraseIdx i).length=n:=by rw [List.length_eraseIdx,if_pos (by omega)];omega
 simp only at few
 refine (drop_raw b i n (Qu.nums ⟨q,t,L⟩) (by omega) (by omega) (by simp [Qu.nums,hn]) w h.n).mono ?_
 rintro e w' ⟨rfl,⟨M,rfl,hM⟩,hk⟩
 refine ⟨rfl,?_,hk⟩
 rw [nums_copy q t L i n hn (by omega) (by omega)] at hM
 by_cases z:i=0
 . rw [if_pos z] at hM |-
   exact hM.q rfl (by simp only;omega)
 . rw [if_neg z] at hM |-
   exact hM.q rfl (by simp only;omega)
theorem nodup_len: ∀ (n:Nat) (L:List Int),L.Nodup->(∀ x∈L,0<=x/\x<(n:Int))->L.length<=n
 | 0, L, _, h => by
  cases L with
  | nil => simp
  | cons x r => have := h x (by simp); omega
 | n + 1, L, hd, h => by
  by_cases c:(n:Int)∈L
  . have:=nodup_len n (L.erase (n:Int)) (hd.erase _) (fun x hx=>by
     rw [hd.mem_erase_iff] at hx
     have:=h x hx.2
     have:=hx.1
     omega)
    rw [List.length_erase_of_mem c] at this
    omega
  . have:=nodup_len n L hd (fun x hx=>by
     have:=h x hx
     have:x≠(n:Int):=fun e=>c (e ▸ hx)
     omega)
    omega
structure Good (S:Qu):Prop where
 q0:1<=S.q
 q1:S.q<=1000
 t0:0<=S.t
 t1:S.t<S.q
 one:S.L.Nodup
 who: ∀ x∈S.L,0<=x/\x<16
 idle:S.L=[]->S.t=0
theorem Good.few {S:Qu} (h:Good S):S.L.length<=16:=nodup_len 16 S.L h.one h.who
theorem Good.room {S:Qu} (h:Good S) {p:Int} (p0:0<=p) (p1:p<16) (hp:p∉S.L):S.L.length<16:=by
 have:=nodup_len 16 (p::S.L) (List.nodup_cons.2 ⟨hp,h.one⟩) (fun x hx=>by
  rcases List.mem_cons.1 hx with rfl | hx
  . exact ⟨p0,p1⟩
  . exact h.who x hx)
 simp at this;omega
def addE (S:Qu) (p:Int):Int:=if p<0\/16<=p then 1 else if p∈S.L then 6 else 0
def addS (S:Qu) (p:Int):Qu:=if p<0\/16<=p then S else if p∈S.L then S else ⟨S.q,S.t,S.L++[p]⟩
def remE (S:Qu) (p:Int):Int:=if p∈S.L then 0 else 5
def remS (S:Qu) (p:Int):Qu:=if p∈S.L then ⟨S.q,if fstAt S.L p=0 then 0 else S.t,S.L.eraseIdx (fstAt S.L p)⟩ else S
def yldS (S:Qu):Qu:=match S.L with | []=>S | x::r=>⟨S.q,0,r++[x]⟩
def tckB (S:Qu):Bool:=nowB S.L && !decide (S.t+1<S.q)
def tckS (S:Qu):Qu:=match S.L with | []=>S | _::_=>if S.t+1<S.q then ⟨S.q,S.t+1,S.L⟩ else yldS S
theorem Good.add {S:Qu} (h:Good S) (p:Int):Good (addS S p):=by
 unfold addS
 by_cases c:p<0\/16<=p
 . rw [if_pos c];exact h
 . rw [if_neg c]
   by_cases e:p∈S.L
   . rw [if_pos e];exact h
   . rw [if_neg e]
     refine ⟨h.q0,h.q1,h.t0,h.t1,?_,?_,fun z=>by simp at z⟩
     . show (S.L++[p]).Nodup
       rw [List.nodup_append]
       refine ⟨h.one,by simp,?_⟩
       intro x hx y hy
       simp at hy
       subst hy
       exact fun z=>e (z ▸ hx)
     . intro x hx
       rcases List.mem_append.1 hx with hx | hx
       . exact h.who x hx
       . simp at hx;subst hx;omega
theorem Good.rem {S:Qu} (h:Good S) (p:Int):Good (remS S p):=by
 unfold remS
 by_cases e:p∈S.L
 . rw [if_pos e]
   have q0:=h.q0;have t0:=h.t0;have t1:=h.t1
   have sub:(S.L.eraseIdx (fstAt S.L p)).Sublist S.L:=List.eraseIdx_sublist _ _
   refine ⟨h.q0,h.q1,?_,?_,h.one.sublist sub,fun x hx=>h.who x (sub.subset hx),?_⟩
   . show 0<=(if fstAt S.L p=0 then 0 else S.t);split <;> omega
   . show (if fstAt S.L p=0 then 0 else S.t)<S.q;split <;> omega
   . intro z
     show (if fstAt S.L p=0 then 0 else S.t)=0
     have z':S.L.eraseIdx (fstAt S.L p)=[]:=z
     have hl:=fst_lt.2 e
     have:(S.L.eraseIdx (fstAt S.L p)).length=0:=by rw [z'];rfl
     rw [List.length_eraseIdx,if_pos hl] at this
     rw [if_pos (by omega)]
 . rw [if_neg e];exact h
theorem Good.yld {S:Qu} (h:Good S):Good (yldS S):=by
 unfold yldS
 obtain ⟨q,t,L⟩:=S
 cases L with
 | nil => exact h
 | cons x r =>
  have q0:=h.q0
  have one:(x::r).Nodup:=h.one
  refine ⟨h.q0,h.q1,by show (0:Int)<=0;omega,by show (0:Int)<q;simp only at q0;omega,?_,fun y hy=>h.who y ?_,fun _=>rfl⟩
  . show (r++[x]).Nodup
    rw [List.nodup_cons] at one
    rw [List.nodup_append]
    refine ⟨one.2,by simp,?_⟩
    intro y hy z hz
    simp at hz
    subst hz
    exact fun e=>one.1 (e ▸ hy)
  . have hy':y∈r++[x]:=hy
    show y∈x::r
    simp at hy' |-
    exact hy'.symm
theorem Good.tck {S:Qu} (h:Good S):Good (tckS S):=by
 unfold tckS
 have Y:=h.yld
 obtain ⟨q,t,L⟩:=S
 cases L with
 | nil => exact h
 | cons x r =>
  by_cases c:t+1<q
  . simp only [if_pos c]
    have t0:=h.t0
    simp only at t0
    exact ⟨h.q0,h.q1,by show 0<=t+1;omega,c,h.one,h.who,fun z=>by cases z⟩
  . simp only [if_neg c];exact Y
theorem add_any (b:Nat) (S:Qu) (p:Int) (g:Good S) (w:World) (h:IsQ w b S):Calls Tryz.prog 28 #[.pointer (some ⟨b,0,none⟩),.int .i64 p] w fun e w'=>e=.returned (.int .i64 (addE S p))/\IsQ w' b (addS S p)/\Kb b w w':=by
 have H:Hid (IsQ w b S):=h
 have lt0:=blk_lt h.blk
 clear h
 by_cases c1:p<0
 . have d1:decide (p<0)=true:=by simp [c1]
   rw [addE,addS,if_pos (Or.inl c1),if_pos (Or.inl c1)]
   go_enter Tryz.func28,Tryz.ntmps28
   go_wp2_with fail
   go_returns
   exact ⟨rfl,H.out,Kb.refl _ _⟩
 have d1:decide (p<0)=false:=kg
 by_cases c2:16<=p
 . have d2:decide (16<=p)=true:=by simp [c2]
   rw [addE,addS,if_pos (Or.inr c2),if_pos (Or.inr c2)]
   go_enter Tryz.func28,Tryz.ntmps28
   go_wp2_with fail
   go_returns
   exact ⟨rfl,H.out,Kb.refl _ _⟩
 have d2:decide (16<=p)=false:=kg
 have cc: ¬ (p<0\/16<=p):=by omega
 rw [addE,addS,if_neg cc,if_neg cc]
 obtain ⟨q,t,L⟩:=S
 have PL:Hid (∀ W:World,IsQ W b ⟨q,t,L⟩->Calls Tryz.prog 41 #[.pointer (some ⟨b,0,none⟩),.int .i64 p] W (re (.int .i64 (plc L p)) W)):=fun W k=>place_any b q t L p W k
 by_cases e:p∈L
 . simp only [if_pos e]
   have hp:plc L p=(fstAt L p:Int):=if_pos (fst_lt.2 e)
   rw [hp] at PL
   generalize fstAt L p=k at PL
   have d3:decide (0<=(k:Int))=true:=by simp
   clear g e hp
   go_enter Tryz.func28,Tryz.ntmps28
   go_wp2_with fail
   refine (PL.out _ H.out).mono ?_
   rintro e u ⟨rfl,hb⟩
   have B1:Hid (bc w u):=hb
   clear hb
   go_wp2_with fail
   go_returns
   exact ⟨rfl,H.out.below B1.out,Kb.below B1.out⟩
 . simp only [if_neg e]
   have hp:plc L p= -1:=if_neg (fun z=>e (fst_lt.1 z))
   rw [hp] at PL
   have rm:L.length<16:=g.room (by omega) (by omega) e
   have PU:Hid (∀ W:World,IsQ W b ⟨q,t,L⟩->Calls Tryz.prog 42 #[.pointer (some ⟨b,0,none⟩),.int .i64 p] W fun e w'=>e=.returned (.tuple #[])/\IsQ w' b ⟨q,t,L++[p]⟩/\Kb b W w'):=fun W k=>push_any b q t p L rm W k
   clear g e hp rm
   go_enter Tryz.func28,Tryz.ntmps28
   go_wp2_with fail
   refine (PL.out _ H.out).mono ?_
   rintro e u ⟨rfl,hb⟩
   have B1:Hid (bc w u):=hb
   clear hb
   go_wp2_with fail
   refine (PU.out _ (H.out.below B1.out)).mono ?_
   rintro e u2 ⟨rfl,h2,k2⟩
   have H2:Hid (IsQ u2 b ⟨q,t,L++[p]⟩):=h2
   have K2:Hid (Kb b w u2):=(Kb.below B1.out).trans k2
   clear h2 k2
   go_wp2_with fail
   go_returns
   exact ⟨rfl,H2.out,K2.out⟩
theorem rem_any (b:Nat) (S:Qu) (p:Int) (g:Good S) (w:World) (h:IsQ w b S):Calls Tryz.prog 107 #[.pointer (some ⟨b,0,none⟩),.int .i64 p] w fun e w'=>e=.returned (.int .i64 (remE S p))/\IsQ w' b (remS S p)/\Kb b w w':=by
 have H:Hid (IsQ w b S):=h
 have lt0:=blk_lt h.blk
 clear h
 rw [remE,remS]
 obtain ⟨q,t,L⟩:=S
 have PL:Hid (∀ W:World,IsQ W b ⟨q,t,L⟩->Calls Tryz.prog 41 #[.pointer (some ⟨b,0,none⟩),.int .i64 p] W (re (.int .i64 (plc L p)) W)):=fun W k=>place_any b q t L p W k
 by_cases e:p∈L
 . simp only [if_pos e]
   have hl:=fst_lt.2 e
   have hp:plc L p=(fstAt L p:Int):=if_pos hl
   rw [hp] at PL
   have DR:Hid (∀ W:World,IsQ W b ⟨q,t,L⟩->Calls Tryz.prog 67 #[.pointer (some ⟨b,0,none⟩),.int .i64 (fstAt L p)] W fun e w'=>e=.returned (.tuple #[])/\IsQ w' b ⟨q,if fstAt L p=0 then 0 else t,L.eraseIdx (fstAt L p)⟩/\Kb b W w'):=fun W k=>drop_any b _ q t L hl W k
   obtain ⟨S2,hS2⟩: ∃ S2:Qu,S2=⟨q,if fstAt L p=0 then 0 else t,L.eraseIdx (fstAt L p)⟩:=⟨_,rfl⟩
   rw [<- hS2] at DR |-
   clear hS2 hl hp
   generalize fstAt L p=k at PL DR
   have d3:decide ((k:Int)<0)=false:=by simp
   clear g e
   go_enter Tryz.func107,Tryz.ntmps107
   go_wp2_with fail
   refine (PL.out _ H.out).mono ?_
   rintro e u ⟨rfl,hb⟩
   have B1:Hid (bc w u):=hb
   clear hb
   go_wp2_with fail
   refine (DR.out _ (H.out.below B1.out)).mono ?_
   rintro e u2 ⟨rfl,h2,k2⟩
   have H2:Hid (IsQ u2 b S2):=h2
   have K2:Hid (Kb b w u2):=(Kb.below B1.out).trans k2
   clear h2 k2
   go_wp2_with fail
   go_returns
   exact ⟨rfl,H2.out,K2.out⟩
 . simp only [if_neg e]
   have hp:plc L p= -1:=if_neg (fun z=>e (fst_lt.1 z))
   rw [hp] at PL
   clear g e hp
   go_enter Tryz.func107,Tryz.ntmps107
   go_wp2_with fail
   refine (PL.out _ H.out).mono ?_
   rintro e u ⟨rfl,hb⟩
   have B1:Hid (bc w u):=hb
   clear hb
   go_wp2_with fail
   go_returns
   exact ⟨rfl,H.out.below B1.out,Kb.below B1.out⟩
theorem yld_any (b:Nat) (S:Qu) (w:World) (h:IsQ w b S):Calls Tryz.prog 37 #[.pointer (some ⟨b,0,none⟩)] w fun e w'=>e=.returned (.tuple #[])/\IsQ w' b (yldS S)/\Kb b w w':=by
 have H:Hid (IsQ w b S):=h
 have lt0:=blk_lt h.blk
 have NW:Hid (∀ W:World,IsQ W b S->Calls Tryz.prog 18 #[.pointer (some ⟨b,0,none⟩)] W (re (.tuple #[.int .i64 (nowV S.L),.bool (nowB S.L)]) W)):=fun W k=>now_any b S W k
 have few:=h.few
 clear h
 obtain ⟨q,t,L⟩:=S
 cases L with
 | nil =>
  have NW':Hid (∀ W:World,IsQ W b ⟨q,t,[]⟩->Calls Tryz.prog 18 #[.pointer (some ⟨b,0,none⟩)] W (re (.tuple #[.int .i64 0,.bool false]) W)):=NW
  clear NW few
  go_enter Tryz.func37,Tryz.ntmps37
  go_wp2_with fail
  refine (NW'.out _ H.out).mono ?_
  rintro e u ⟨rfl,hb⟩
  have B1:Hid (bc w u):=hb
  clear hb
  go_wp2_with fail
  go_returns
  exact ⟨rfl,H.out.below B1.out,Kb.below B1.out⟩
 | cons x r =>
  have NW':Hid (∀ W:World,IsQ W b ⟨q,t,x::r⟩->Calls Tryz.prog 18 #[.pointer (some ⟨b,0,none⟩)] W (re (.tuple #[.int .i64 x,.bool true]) W)):=NW
  have DR:Hid (∀ W:World,IsQ W b ⟨q,t,x::r⟩->Calls Tryz.prog 67 #[.pointer (some ⟨b,0,none⟩),.int .i64 0] W fun e w'=>e=.returned (.tuple #[])/\IsQ w' b ⟨q,0,r⟩/\Kb b W w'):=fun W k=>drop_any b 0 q t (x::r) (by simp) W k
  have PU:Hid (∀ W:World,IsQ W b ⟨q,0,r⟩->Calls Tryz.prog 42 #[.pointer (some ⟨b,0,none⟩),.int .i64 x] W fun e w'=>e=.returned (.tuple #[])/\IsQ w' b ⟨q,0,r++[x]⟩/\Kb b W w'):=fun W k=>push_any b q 0 x r (by simp at few;omega) W k
  clear NW few
  go_enter Tryz.func37,Tryz.ntmps37
  go_wp2_with fail
  refine (NW'.out _ H.out).mono ?_
  rintro e u ⟨rfl,hb⟩
  have B1:Hid (bc w u):=hb
  clear hb
  go_wp2_with fail
  refine (DR.out _ (H.out.below B1.out)).mono ?_
  rintro e u2 ⟨rfl,h2,k2⟩
  have H2:Hid (IsQ u2 b ⟨q,0,r⟩):=h2
  have K2:Hid (Kb b w u2):=(Kb.below B1.out).trans k2
  clear h2 k2
  go_wp2_with fail
  refine (PU.out _ H2.out).mono ?_
  rintro e u3 ⟨rfl,h3,k3⟩
  have H3:Hid (IsQ u3 b ⟨q,0,r++[x]⟩):=h3
  have K3:Hid (Kb b w u3):=K2.out.trans k3
  clear h3 k3
  go_wp2_with fail
  go_returns
  exact ⟨rfl,H3.out,K3.out⟩
theorem tck_any (b:Nat) (S:Qu) (g:Good S) (w:World) (h:IsQ w b S):Calls Tryz.prog 21 #[.pointer (some ⟨b,0,none⟩)] w fun e w'=>e=.returned (.bool (tckB S))/\IsQ w' b (tckS S)/\Kb b w w':=by
 have H:Hid (IsQ w b S):=h
 have lt0:=blk_lt h.blk
 have c0:=h.c0
 have c1:=h.c1
 have c2:=h.c2
 have f1:w.frozen? ⟨b,1,none⟩=false:=h.free _
 clear h
 obtain ⟨q,t,L⟩:=S
 have t0:=g.t0
 have t1:=g.t1
 have q1:=g.q1
 simp only at t0 t1 q1 c0 c1 c2
 have YL:Hid (∀ W:World,IsQ W b ⟨q,t+1,L⟩->Calls Tryz.prog 37 #[.pointer (some ⟨b,0,none⟩)] W fun e w'=>e=.returned (.tuple #[])/\IsQ w' b (yldS ⟨q,t+1,L⟩)/\Kb b W w'):=fun W k=>yld_any b _ W k
 clear g
 cases L with
 | nil =>
  have c2':w.cell? ⟨b,2,none⟩=some (.int .i64 0):=c2
  clear c2 YL
  go_enter Tryz.func21,Tryz.ntmps21
  go_wp2_with fail
  go_returns
  exact ⟨rfl,H.out,Kb.refl _ _⟩
 | cons x r =>
  obtain ⟨m,hm⟩: ∃ m:Int,m=(((x::r).length:Nat):Int):=⟨_,rfl⟩
  have m0:(m==0)=false:=by rw [hm];simp;omega
  have m1: ¬ m=0:=by rw [hm];simp;omega
  have c2':w.cell? ⟨b,2,none⟩=some (.int .i64 m):=by rw [hm];exact c2
  clear c2 hm
  by_cases c:t+1<q
  . have e1:tckB ⟨q,t,x::r⟩=false:=by simp [tckB,nowB,c]
    have e2:tckS ⟨q,t,x::r⟩=⟨q,t+1,x::r⟩:=by simp [tckS,c]
    rw [e1,e2]
    have d:decide (t+1<q)=true:=by simp [c]
    clear e1 e2 YL
    go_enter Tryz.func21,Tryz.ntmps21
    go_wp2_with fail
    go_region
    all_goals (go_wp2_with fail)
    all_goals (go_returns)
    all_goals (exact ⟨rfl,(H.out.tick _).kept (fun _=>rfl),(Kb.set _ _ _ _).drew⟩)
  . have e1:tckB ⟨q,t,x::r⟩=true:=by simp [tckB,nowB,c]
    have e2:tckS ⟨q,t,x::r⟩=yldS ⟨q,t+1,x::r⟩:=by simp [tckS,c,yldS]
    rw [e1,e2]
    have d:decide (t+1<q)=false:=kg
    clear e1 e2
    generalize yldS ⟨q,t+1,x::r⟩=S2 at YL |-
    have H1:Hid (IsQ (w.setCell ⟨b,1,none⟩ (.int .i64 (t+1))) b ⟨q,t+1,x::r⟩):=H.out.tick _
    have K1:Hid (Kb b w (w.setCell ⟨b,1,none⟩ (.int .i64 (t+1)))):=Kb.set _ _ _ _
    go_enter Tryz.func21,Tryz.ntmps21
    go_wp2_with fail
    go_region
    all_goals (go_wp2_with fail)
    all_goals (refine (YL.out (w.setCell ⟨b,1,none⟩ (.int .i64 (t+1))).drew (H1.out.kept (fun _=>rfl))).mono ?_;rintro e u ⟨rfl,h2,k2⟩)
    all_goals (have H2:Hid (IsQ u b S2):=h2)
    all_goals (have K2:Hid (Kb b w u):=⟨k2.os.trans K1.out.os,k2.tape.trans K1.out.tape,k2.output.trans K1.out.output,Nat.le_trans K1.out.size k2.size,fun j hj h1=>(k2.block j (nla hj K1.out.size) h1).trans (K1.out.block j hj h1)⟩)
    all_goals (clear h2 k2)
    all_goals (go_wp2_with fail)
    all_goals (go_returns)
    all_goals (exact ⟨rfl,H2.out,K2.out⟩)
def IsI (w:World) (p:Option Addr) (L:List Int) (base:Nat):Prop:= ∀ i (h:i<L.length),∃ g,p=some ⟨g,0,none⟩/\base<=g/\g<w.heap.size/\w.cell? ⟨g,i,none⟩=some (.int .i64 L[i])
theorem IsI.below {w w':World} {p:Option Addr} {L:List Int} {base:Nat} (h:IsI w p L base) (hb:bc w w'):IsI w' p L base:=fun i hi=>by
 obtain ⟨g,e,l1,l2,c⟩:=h i hi
 exact ⟨g,e,l1,nla l2 hb.size,(World.cell?_of_block (hb.block g l2)).trans c⟩
theorem infoI: ∃ i,Tryz.prog.info? 3=some i/\i.zero=some (.int .i64 0)/\i.size=1/\i.bytes=8:=⟨_,rfl,by kernel_rfl,by kernel_rfl,by kernel_rfl⟩
theorem slice_h (b n:Nat) (hn:n<=16) (W:World):(Instr.sliceAt 92 (.pointer (some ⟨b,3,none⟩)) none (some (.int .i64 (n:Int))) none).run Tryz.prog W=.ok (.slice (some ⟨b,3,none⟩) n 16) W:=by
 rw [run_sliceAt_array_h W _ _ kc .i64 (n:Int) (by omega) (by rw [lenA];omega),elemA,sizeI,lenA]
 show Result.ok (slicedAt _ _ _ _ _) W=_
 rw [slicedAt]
 simp [Addr.add]
theorem own_of_row {w w':World} {v:Value} {L:List Int} (h:w'.ownsRow w.heap.size 3 1 v L.length (L.map (Value.int .i64))): ∃ p c,v=.slice p L.length c/\IsI w' p L w.heap.size:=by
 have hc:=fun g (hg:v.ownBlock=some g)=>h.cells (g:=g) hg
 obtain ⟨hl,⟨hv,h0⟩ | ⟨g,cap,cur,hv,hb,hblk,_⟩⟩:=h
 . exact ⟨none,0,by rw [hv,h0],fun i hi=>absurd hi (by omega)⟩
 . refine ⟨_,_,hv,fun i hi=>⟨g,rfl,hb,blk_lt hblk,?_⟩⟩
   have:=hc g (by rw [hv];rfl) i (.int .i64 L[i]) (by rw [List.getElem?_map,List.getElem?_eq_getElem hi];rfl)
   have e:(Addr.add ⟨g,0,none⟩ i)=⟨g,i,none⟩:=by
    unfold Addr.add
    by_cases q:i=0
    . rw [if_pos q];subst q;rfl
    . rw [if_neg q];simp
   rw [e] at this;exact this
theorem below_drewN {n m:Nat} {w W:World} (h:Below n w W):Below n w (W.drewN m):=⟨h.os,h.tape,h.output,h.size,h.block⟩
theorem step_app {P:Program} {ops:Array Oper} {o:Oper} {a:Act} {w:World} {K:Act->World->Prop} {Q:Exit->Act->World->Prop} {E:Prop} (hgd:o.guard=none) (s x:Operand) (t:TypeId)
 (ho:o.op=.call { callee:=.builtin .append,args:= #[s,x],argTypes:= #[t,t] }) (vs vx:Value) (hs:a.eval s=vs) (hx:a.eval x=vx) (v':Value) (w1:World)
 (hr:(Builtin.append_ #[t,t] o.type #[vs,vx]).run P w=.ok v' w1) (h:K (a.put o.dst v') w1) :
 if Region.wanted o (yielded ops a.tmps)=true then Oper.wp P o a w K Q else E:=by
 have hw:Region.wanted o (yielded ops a.tmps)=true:=by simp [Region.wanted,hgd]
 rw [if_pos hw]
 unfold Oper.wp execOp
 simp only [ho,resolve,invoke,builtin,Sem.run_bind,Sem.run_pure,Result.andThen_ok,List.map_toArray,List.map_cons,List.map_nil,hs,hx,hr]
 exact h
theorem line_any (b:Nat) (S:Qu) (w:World) (h:IsQ w b S):Calls Tryz.prog 22 #[.pointer (some ⟨b,0,none⟩)] w fun e w'=>(∃ p c,e=.returned (.slice p S.L.length c)/\IsI w' p S.L w.heap.size)/\bc w w':=by
 obtain ⟨q,t,L⟩:=S
 have lt0:=blk_lt h.blk
 have c2:=h.c2
 have few:=h.few
 simp only at few c2 |-
 have hs:=slice_h b L.length few
 obtain ⟨i0,hi,hz0,hz1,hz2⟩:=infoI
 obtain ⟨v,w1,r,ho,hg,_,_⟩:=run_append_own_at (P:=Tryz.prog) w.drew w.heap.size 41 41 3 i0 (.int .i64 0) 1 8 Tryz.underlying41 hi hz0 hz1 hz2 rfl kh (.slice none 0 0) 0 [] ⟨rfl,Or.inl ⟨rfl,rfl⟩⟩
  ⟨b,3,none⟩ L.length 16 (L.map (Value.int .i64)) (by simp) (by
   intro j u hj
   rw [List.getElem?_map] at hj
   by_cases hjl:j<L.length
   . rw [List.getElem?_eq_getElem hjl] at hj
     have e:(Addr.add ⟨b,3,none⟩ j)=⟨b,3+j,none⟩:=by
      unfold Addr.add
      by_cases q:j=0
      . rw [if_pos q];subst q;rfl
      . rw [if_neg q]
     rw [e]
     have:=h.cl j hjl
     rw [show w.drew.cell? ⟨b,3+j,none⟩=w.cell? ⟨b,3+j,none⟩ from rfl,this]
     exact hj
   . rw [List.getElem?_eq_none (by omega)] at hj;cases hj) (by intro u hu;obtain ⟨x,_,rfl⟩:=List.mem_map.1 hu;rfl) (by unfold maxLen;omega) (by omega) (Nat.le_refl _)
 rw [List.nil_append,Nat.zero_add] at ho
 obtain ⟨p,c,rfl,hI⟩:=own_of_row (w:=w) ho
 have HI:Hid (IsI w1 p L w.heap.size):=hI
 have HB:Hid (bc w w1):=⟨hg.os,hg.tape,hg.output,hg.size,fun k hk=>hg.block k hk (by simp [Value.ownBlock])⟩
 clear h ho hg hI
 generalize L.length=n at *
 go_enter Tryz.func22,Tryz.ntmps22
 go_wp2_with fail
 go_region_law (refine step_app rfl (.const (.slice none 0 0)) (.tmp 10) 41 rfl (.slice none 0 0) (.slice (some ⟨b,3,none⟩) n 16) (by simp [Act.eval,Act.put]) (by simp [Act.eval,Act.put]) (.slice p n c) w1 r ?_)
 all_goals (go_wp2_with fail)
 all_goals (go_returns)
 all_goals (exact ⟨⟨p,c,rfl,HI.out⟩,HB.out⟩)
theorem same_raw (n:Nat) (p1 p2:Option Addr) (c1 c2:Nat) (A B:Nat->Int) (r:Bool) (hn:n<=1000) (w:World)
 (HA:Hid (∀ i,i<n-> ∃ g,p1=some ⟨g,0,none⟩/\g<w.heap.size/\w.cell? ⟨g,i,none⟩=some (.int .i64 (A i)))) (HB:Hid (∀ i,i<n-> ∃ g,p2=some ⟨g,0,none⟩/\g<w.heap.size/\w.cell? ⟨g,i,none⟩=some (.int .i64 (B i))))
 (HR:Hid (r=true↔ ∀ i,i<n->A i=B i)) :
 Calls Tryz.prog 9 #[.slice p1 n c1,.slice p2 n c2] w (re (.bool r) w):=by
 go_enter Tryz.func9,Tryz.ntmps9
 go_wp2_with fail
 go_loopw [13] (fun x W=> ∃ k:Nat,k<=n/\x=.int .i64 k/\Hid (∀ i,i<k->A i=B i)/\Hid (bc w W)) (fun x _=>n-(intOf x).toNat)
 case atStart=>exact ⟨0,by omega,rfl,fun i hi=>absurd hi (Nat.not_lt_zero _),Below.refl _ _⟩
 case round =>
  obtain ⟨k,hk,rfl,hE,hB⟩:=hrel
  by_cases hlt:k<n
  . have hd:decide ((k:Int)<(n:Int))=true:=by simp;omega
    obtain ⟨g1,e1,l1,k1⟩:=HA.out k hlt
    obtain ⟨g2,e2,l2,k2⟩:=HB.out k hlt
    have y1:wr.cell? ⟨g1,k,none⟩=some (.int .i64 (A k)):=(World.cell?_of_block (hB.out.block g1 l1)).trans k1
    have y2:wr.cell? ⟨g2,k,none⟩=some (.int .i64 (B k)):=(World.cell?_of_block (hB.out.block g2 l2)).trans k2
    have y3:g1<wr.heap.size:=nla l1 hB.out.size
    have y4:g2<wr.heap.size:=nla l2 hB.out.size
    clear k1 k2 l1 l2
    subst e1 e2
    obtain ⟨x,hx⟩: ∃ x,x=A k:=⟨_,rfl⟩
    obtain ⟨y,hy⟩: ∃ y,y=B k:=⟨_,rfl⟩
    rw [<- hx] at y1
    rw [<- hy] at y2
    have HX:Hid (x=A k):=hx
    have HY:Hid (y=B k):=hy
    clear hx hy
    by_cases c:x=y
    . have c1:(x==y)=true:=by simp [c]
      have c2:(x != y)=false:=by simp [c]
      have HE:Hid (∀ i,i<k+1->A i=B i):=fun i hi=>by
       rcases Nat.lt_succ_iff_lt_or_eq.1 hi with z | rfl
       . exact hE.out i z
       . rw [<- HX.out,<- HY.out,c]
      subst c
      go_wp2_with fail
      go_quiet (fail)
      go_wp2_with fail
      go_roundw
      case rel=>exact ⟨k+1,by omega,by go_num,HE,below_drewN hB.out⟩
      case measure=>simp [intOf];omega
    . have c1:(x==y)=false:=by simp [c]
      have c2:(x != y)=true:=by simp [c]
      have hr:r=false:=by
       cases hr:r with
       | false => rfl
       | true => exact absurd (HR.out.1 hr k hlt) (by rw [← HX.out, ← HY.out]; exact c)
      have HRF:Hid (r=false):=hr
      clear hr
      go_wp2_with fail
      go_quiet (fail)
      go_wp2_with fail
      go_ret
      exact ⟨by rw [HRF.out];rfl,below_drewN hB.out⟩
  . obtain rfl:k=n:=by omega
    have hd:decide ((k:Int)<(k:Int))=false:=by simp
    have hr:r=true:=HR.out.2 hE.out
    have HRT:Hid (r=true):=hr
    clear hr
    go_wp2_with fail
    go_ret
    exact ⟨by rw [HRT.out];rfl,hB.out⟩
theorem same_ne (n m:Nat) (p1 p2:Option Addr) (c1 c2:Nat) (h:n≠m) (w:World):Calls Tryz.prog 9 #[.slice p1 n c1,.slice p2 m c2] w (re (.bool false) w):=by
 have e1:((n:Int)==(m:Int))=false:=kg
 have e2: ¬ (n:Int)=(m:Int):=by omega
 have e3:((n:Int) != (m:Int))=true:=kg
 go_enter Tryz.func9,Tryz.ntmps9
 go_wp2_with fail
 go_returns
 exact ⟨rfl,Below.refl _ _⟩
theorem same_any (p1 p2:Option Addr) (c1 c2:Nat) (L M:List Int) (b1 b2:Nat) (hn:L.length<=1000) (w:World) (h1:IsI w p1 L b1) (h2:IsI w p2 M b2):Calls Tryz.prog 9 #[.slice p1 L.length c1,.slice p2 M.length c2] w (re (.bool (decide (L=M))) w):=by
 by_cases c:L.length=M.length
 . rw [<- c]
   refine same_raw L.length p1 p2 c1 c2 (fun i=>L[i]?.getD 0) (fun i=>M[i]?.getD 0) _ hn w (fun i hi=> ?_) (fun i hi=> ?_) ?_
   . obtain ⟨g,e,_,l,k⟩:=h1 i hi
     exact ⟨g,e,l,by rw [k,List.getElem?_eq_getElem hi];rfl⟩
   . obtain ⟨g,e,_,l,k⟩:=h2 i (by omega)
     exact ⟨g,e,l,by rw [k,List.getElem?_eq_getElem (by omega)];rfl⟩
   . show decide (L=M)=true↔_
     rw [decide_eq_true_iff]
     constructor
     . rintro rfl i _;rfl
     . intro h
       apply List.ext_getElem c
       intro i i1 i2
       have:=h i i1
       simpa [List.getElem?_eq_getElem i1,List.getElem?_eq_getElem i2] using this
 . rw [decide_eq_false (fun e=>c (by rw [e]))]
   exact same_ne _ _ _ _ _ _ c w
end
end Go.Proofs.YtokpmclmdobgeaaGreat.Ca
