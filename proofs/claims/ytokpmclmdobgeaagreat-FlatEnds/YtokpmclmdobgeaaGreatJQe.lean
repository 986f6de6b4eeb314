import Derived.Test.YtokpmclmdobgeaaGreatKZe
import Derived.Test.YtokpmclmdobgeaaGreatChecked
import Derived.WalkKit
import Derived.ProofKit
import Derived.OpenShut
import Derived.Carry
import Derived.Lib.SmallJoins
import Derived.Deep.Light
import Derived.Deep.MidRow
import Derived.Deep.RegionHeld3
import Derived.Deep.DrawnRows
import Derived.Handy
import Derived.Laws.MakeOwn
import Derived.MapKept
import Derived.Laws.Tables
set_option linter.unusedSimpArgs false
set_option linter.unusedVariables false
set_option maxRecDepth 8000
set_option maxHeartbeats 1000000
open Go.ChangeShapes Go.WideShapes Go.ChangeAt Go.RowKit Go.Maps
namespace Go.Proofs.YtokpmclmdobgeaaGreat.Qo
structure Nd where
 par:Int
 quota:Int
 used:Int
 lent:Int
 live:Bool
def Nd.enc (n:Nd):List Value:=(sn n.par n.quota n.used n.lent n.live)
abbrev Nd.val (n:Nd):Value:=.agg #[.int .i64 n.par,.int .i64 n.quota,.int .i64 n.used,.int .i64 n.lent,.bool n.live]
def Nd.zero:Nd:=⟨0,0,0,0,false⟩
def Nd.room (n:Nd):Int:=n.quota-n.used-n.lent
def IsTree (w:World) (b:Nat) (T:Nat->Nd):Prop:=(∀ i,i<64->w.rangeAt b (i*5) (T i).enc)/\w.there b 0 320/\b<w.heap.size
theorem below_new {w w':World} (h:bc w w') (o:Obj):bc w (w'.alloc o):=h.alloc h.size o
theorem below_then {w x y:World} (h1:bc w x) (h2:bc x y):bc w y:=h1.trans (Go.Joins.below_le h2 h1.size)
theorem grown_of_below {w w':World} (h:bc w w') (r:Option Nat):w.grownBy w' r:=⟨h.os,h.tape,h.output,h.size,fun k hk _=>h.block k hk⟩
theorem grown_setCell1 (w:World) (b o:Nat) (v:Value):w.grownBy (w.setCell ⟨b,o,none⟩ v) (some b):=by
 have h:Below 0 w (w.setCell ⟨b,o,none⟩ v):=(Below.refl 0 w).setCell (Nat.zero_le _) v
 exact ⟨h.os,h.tape,h.output,h.size,fun k hk hne=>Below.heap_setCell _ _ _ _ (fun e=>hne (by rw [show k=b from e]))⟩
theorem grown_trans {a b c:World} {r:Option Nat} (h:a.grownBy b r) (k:b.grownBy c r):a.grownBy c r:=⟨k.os.trans h.os,k.tape.trans h.tape,k.output.trans h.output,Nat.le_trans h.size k.size,fun j hj hne=>(k.block j (nla hj h.size) hne).trans (h.block j hj hne)⟩
theorem grown_refl (a:World) (r:Option Nat):a.grownBy a r:=⟨rfl,rfl,rfl,Nat.le_refl _,fun _ _ _=>rfl⟩
theorem grown_setCells (b:Nat): ∀ (vs:List Value) (o:Nat) (w:World),w.grownBy (w.setCells b o vs) (some b)
 | [], _, w => grown_refl w _
 | v :: r, o, w => by
  rw [World.setCells]
  exact grown_trans (grown_setCell1 w b o v) (grown_setCells b r (o+1) _)
theorem kept_size (w:World) (b o:Nat) (vs:List Value):w.heap.size<=(w.setCells b o vs).heap.size:=(grown_setCells b vs o w).size
theorem IsTree.below {w w':World} {b:Nat} {T:Nat->Nd} (h:IsTree w b T) (hb:bc w w'):IsTree w' b T:=by
 obtain ⟨h1,h2,h3⟩:=h
 refine ⟨fun i hi j v hv=> ?_,fun j hj=> ?_,nla h3 hb.size⟩
 . rw [hb.cell (p:=⟨b,i*5+j,none⟩) h3];exact h1 i hi j v hv
 . rw [hb.cell (p:=⟨b,0+j,none⟩) h3,hb.frozen (p:=⟨b,0+j,none⟩) h3];exact h2 j hj
theorem enc_len (l:Nd):l.enc.length=5:=rfl
section
variable {w:World} {b:Nat} {T:Nat->Nd}
theorem IsTree.free (h:IsTree w b T) (o n:Nat) (ho:o+n<=320):w.there b o n:=fun j hj=>by
 have:=h.2.1 (o+j) (by omega)
 rwa [Nat.zero_add] at this
def putT (T:Nat->Nd) (i:Nat) (l:Nd):Nat->Nd:=fun k=>if k=i then l else T k
theorem put_same (T:Nat->Nd) (i:Nat) (l:Nd):putT T i l i=l:=if_pos rfl
theorem put_other (T:Nat->Nd) (i:Nat) (l:Nd) (k:Nat) (h:k≠i):putT T i l k=T k:=if_neg h
theorem IsTree.put (h:IsTree w b T) (i:Nat) (hi:i<64) (l:Nd):IsTree (w.setCells b (i*5) l.enc) b (putT T i l):=by
 obtain ⟨h1,h2,h3⟩:=h
 refine ⟨fun k hk=> ?_,World.there_setCells h2 _ _ _,nla h3 (kept_size w b (i*5) l.enc)⟩
 by_cases c:k=i
 . subst c;rw [put_same];exact World.rangeAt_setCells_same w b (k*5) l.enc (IsTree.free ⟨h1,h2,h3⟩ _ _ (by simp only [enc_len];omega))
 . rw [put_other _ _ _ _ c]
   refine World.rangeAt_setCells_apart (h1 k hk) b (i*5) l.enc (Or.inr ?_)
   simp only [enc_len]
   omega
theorem IsTree.cell (h:IsTree w b T) (i:Nat) (hi:i<64) (c:Nat) (v:Value) (hv:(T i).enc[c]? =some v) (o:Nat) (ho:o=i*5+c):w.cell? ⟨b,o,none⟩=some v:=by rw [ho];exact h.1 i hi c v hv
theorem IsTree.one (h:IsTree w b T) (i:Nat) (hi:i<64) (c:Nat) (v:Value) (l:Nd) (hl:l.enc=(T i).enc.set c v) (hc:c<5) (o:Nat) (ho:o=i*5+c):IsTree (w.setCell ⟨b,o,none⟩ v) b (putT T i l):=by
 subst ho
 obtain ⟨h1,h2,h3⟩:=h
 have e:w.setCell ⟨b,i*5+c,none⟩ v=w.setCells b (i*5+c) [v]:=by rw [World.setCells,World.setCells]
 rw [e]
 refine ⟨fun k hk=> ?_,World.there_setCells h2 _ _ _,nla h3 (kept_size w b _ _)⟩
 by_cases d:k=i
 . subst d;rw [put_same,hl]
   intro j x hj
   have hj5:j<5:=by have:=(List.getElem?_eq_some_iff.1 hj).1;simpa [enc_len] using this
   by_cases f:j=c
   . subst f
     have hx:x=v:=by
      rw [List.getElem?_set_self (by rw [enc_len];exact hj5)] at hj
      exact (sia hj).symm
     subst hx
     exact World.rangeAt_setCells_same w b (k*5+j) [x] (IsTree.free ⟨h1,h2,h3⟩ _ _ (by simp only [List.length_cons,List.length_nil];omega)) 0 x rfl
   . rw [List.getElem?_set_ne (fun q=>f q.symm)] at hj
     rw [World.cell?_setCells_out b [v] _ w _ (fun _=>by simp only [List.length_cons,List.length_nil];omega)]
     exact h1 k hk j x hj
 . rw [put_other _ _ _ _ d]
   refine World.rangeAt_setCells_apart (h1 k hk) b _ [v] (Or.inr ?_)
   simp only [enc_len,List.length_cons,List.length_nil]
   omega
theorem store_pat {P:Program} {ops:Array Oper} {rest:List Oper} {ty t:TypeId} {x y:Operand} {pos:String} {af:Array Edge} {a:Act} {w:World} {Q:Exit->Act->World->Prop} (b o:Nat) (cells:Array Value) (hx:a.eval x=.pointer (some ⟨b,o,none⟩)) (hy:a.eval y=.agg cells)
 (ht:w.there b o cells.size) (hi:(P.info? ty).map (·.size)=some cells.size) (h1:cells.all (·.oneCell')=true)
 (h:wpList P ops Q rest a (w.setCells b o cells.toList)):wpList P ops Q ({ dst:=none,op:=.store ty x y,type:=t,pos:=pos,after:=af,guard:=none }::rest) a w :=
 wpList_store_mid rfl ty x y rfl b o cells hx hy ht hi h1 h
theorem own1 (w:World) (o:Obj):(w.alloc o).heap[w.heap.size]? =some o:=(MapKept.heap_alloc w o).1
theorem there_block {w:World} {b:Nat} {C:Array Value} {t:TypeId} (h:w.heap[b]? =some (.cells C t (0,0))):w.there b 0 C.size:=fun j hj=>by
 rw [Nat.zero_add]
 exact ⟨by rw [Go.Joins.cell_of_block h j,Array.getElem?_eq_getElem hj];rfl,Go.Joins.unfrozen_of_block h j⟩
theorem grown_alloc (w:World) (o:Obj) (r:Option Nat):w.grownBy (w.alloc o) r:=grown_of_below (Go.Joins.below_alloc1 w o) r
def Own (w W:World) (b:Nat) (T:Nat->Nd):Prop:=IsTree W b T/\bc w W/\w.heap.size<=b
theorem node_info:(Tryz.prog.info? 76).map (·.size)=some 5:=kc
theorem free_cl (l:Nd) (w:World):Calls Tryz.prog 39 #[l.val] w (re (.bool (!l.live)) w):=by
 go_enter Tryz.func39,Tryz.ntmps39
 go_wp2
 go_returns
 exact ⟨rfl,baa⟩
theorem child_cl (l:Nd) (B:Nat) (i:Int) (w:World) (hB:w.cell? ⟨B,0,none⟩=some (.int .i64 i)) (lB:B<w.heap.size) :
 Calls Tryz.prog 69 #[l.val,.pointer (some ⟨B,0,none⟩)] w (re (.bool (l.live && (l.par==i))) w):=by
 obtain ⟨p,q,u,n,v⟩:=l
 cases v
 . go_enter Tryz.func69,Tryz.ntmps69
   go_wp2
   go_returns
   exact ⟨by simp,baa⟩
 . by_cases h:p=i
   . have h2:(p==i)=true:=by simp [h]
     go_enter Tryz.func69,Tryz.ntmps69
     go_wp2
     go_returns
     exact ⟨by simp [h2],baa⟩
   . have h2:(p==i)=false:=by simp [h]
     go_enter Tryz.func69,Tryz.ntmps69
     go_wp2
     go_returns
     exact ⟨by simp [h2],baa⟩
def IdxIs (T:Nat->Nd) (f:Nd->Bool) (r:Int):Prop:=(∃ i:Nat,i<64/\r=i/\f (T i)=true/\ ∀ j,j<i->f (T j)=false)\/(r= -1/\ ∀ j,j<64->f (T j)=false)
theorem idx0 (b:Nat) (g:Nat) (T:Nat->Nd) (f:Nd->Bool) (C:World->Prop) (hC:Hid (∀ W W':World,C W->bc W W'->C W')) (hen: ∀ (args:Array Value) (w:World),(callFunc g args).run Tryz.prog w=.ok (.enter g args) w)
 (hg:Hid (∀ (W:World) (l:Nd),C W->Calls Tryz.prog g #[l.val] W fun e W'=>e=.returned (.bool (f l))/\bc W W')) (w:World) (h:IsTree w b T) (hc:C w) :
 Calls Tryz.prog 38 #[.slice (some ⟨b,0,none⟩) 64 64,.func (.func g) #[] #[]] w fun e w'=>(∃ r,e=.returned (.int .i64 r)/\IdxIs T f r)/\bc w w':=by
 go_enter Tryz.func38,Tryz.ntmps38
 go_wp2_with fail
 go_loopw [8] (fun x W=> ∃ k:Nat,k<=64/\x=.int .i64 k/\Hid (IsTree W b T)/\Hid (C W)/\Hid (bc w W)/\Hid (∀ j,j<k->f (T j)=false)) (fun x _=>64-(intOf x).toNat)
 case atStart=>exact ⟨0,by omega,rfl,h,hc,Below.refl _ _,fun j hj=>absurd hj (Nat.not_lt_zero _)⟩
 case round =>
  obtain ⟨k,hk,rfl,hT,hcw,hgr,hno⟩:=hrel
  by_cases hlt:k<64
  . have hd:decide ((k:Int)<64)=true:=by simp;omega
    obtain ⟨l,hl⟩: ∃ l,T k=l:=⟨_,rfl⟩
    have hT1:=hT.out
    have c0:wr.cell? ⟨b,k*5,none⟩=some (.int .i64 l.par):=hT1.cell (k) (by omega) 0 _ ke _ (by omega)
    have c1:wr.cell? ⟨b,k*5+1,none⟩=some (.int .i64 l.quota):=hT1.cell (k) (by omega) 1 _ ke _ (by omega)
    have c2:wr.cell? ⟨b,k*5+2,none⟩=some (.int .i64 l.used):=hT1.cell (k) (by omega) 2 _ ke _ (by omega)
    have c3:wr.cell? ⟨b,k*5+3,none⟩=some (.int .i64 l.lent):=hT1.cell (k) (by omega) 3 _ ke _ (by omega)
    have c4:wr.cell? ⟨b,k*5+4,none⟩=some (.bool l.live):=hT1.cell (k) (by omega) 4 _ ke _ (by omega)
    clear hT1
    have HL:Hid (T k=l):=hl
    clear hl
    go_wp2_with fail
    refine (hg.out _ l hcw.out).mono ?_
    rintro e u ⟨rfl,hb⟩
    have U1:Hid (IsTree u b T):=hT.out.below hb
    have U2:Hid (C u):=hC.out _ _ hcw.out hb
    have U3:Hid (bc w u):=below_then hgr.out hb
    clear hb c0 c1 c2 c3 c4
    cases hf:f l
    . have hf':Hid (∀ j,j<k+1->f (T j)=false):=fun j hj=>by
       rcases Nat.lt_succ_iff_lt_or_eq.1 hj with c | rfl
       . exact hno.out j c
       . rw [HL.out];exact hf
      go_wp2_with fail
      go_roundw
      case rel=>exact ⟨k+1,by omega,by go_num,U1,U2,U3,hf'⟩
      case measure=>simp [intOf];omega
    . go_wp2_with fail
      go_ret
      exact ⟨⟨_,rfl,Or.inl ⟨k,hlt,rfl,by rw [HL.out];exact hf,hno.out⟩⟩,U3.out⟩
  . obtain rfl:k=64:=by omega
    go_wp2_with fail
    go_ret
    exact ⟨⟨_,rfl,Or.inr ⟨rfl,hno.out⟩⟩,hgr.out⟩
theorem idx1 (b:Nat) (g B0:Nat) (T:Nat->Nd) (f:Nd->Bool) (C:World->Prop) (hC:Hid (∀ W W':World,C W->bc W W'->C W')) (hen: ∀ (args:Array Value) (w:World),(callFunc g args).run Tryz.prog w=.ok (.enter g args) w)
 (hg:Hid (∀ (W:World) (l:Nd),C W->Calls Tryz.prog g #[l.val,.pointer (some ⟨B0,0,none⟩)] W fun e W'=>e=.returned (.bool (f l))/\bc W W')) (w:World) (h:IsTree w b T) (hc:C w) :
 Calls Tryz.prog 38 #[.slice (some ⟨b,0,none⟩) 64 64,.func (.func g) #[] #[.pointer (some ⟨B0,0,none⟩)]] w fun e w'=>(∃ r,e=.returned (.int .i64 r)/\IdxIs T f r)/\bc w w':=by
 go_enter Tryz.func38,Tryz.ntmps38
 go_wp2_with fail
 go_loopw [8] (fun x W=> ∃ k:Nat,k<=64/\x=.int .i64 k/\Hid (IsTree W b T)/\Hid (C W)/\Hid (bc w W)/\Hid (∀ j,j<k->f (T j)=false)) (fun x _=>64-(intOf x).toNat)
 case atStart=>exact ⟨0,by omega,rfl,h,hc,Below.refl _ _,fun j hj=>absurd hj (Nat.not_lt_zero _)⟩
 case round =>
  obtain ⟨k,hk,rfl,hT,hcw,hgr,hno⟩:=hrel
  by_cases hlt:k<64
  . have hd:decide ((k:Int)<64)=true:=by simp;omega
    obtain ⟨l,hl⟩: ∃ l,T k=l:=⟨_,rfl⟩
    have hT1:=hT.out
    have c0:wr.cell? ⟨b,k*5,none⟩=some (.int .i64 l.par):=hT1.cell (k) (by omega) 0 _ ke _ (by omega)
    have c1:wr.cell? ⟨b,k*5+1,none⟩=some (.int .i64 l.quota):=hT1.cell (k) (by omega) 1 _ ke _ (by omega)
    have c2:wr.cell? ⟨b,k*5+2,none⟩=some (.int .i64 l.used):=hT1.cell (k) (by omega) 2 _ ke _ (by omega)
    have c3:wr.cell? ⟨b,k*5+3,none⟩=some (.int .i64 l.lent):=hT1.cell (k) (by omega) 3 _ ke _ (by omega)
    have c4:wr.cell? ⟨b,k*5+4,none⟩=some (.bool l.live):=hT1.cell (k) (by omega) 4 _ ke _ (by omega)
    clear hT1
    have HL:Hid (T k=l):=hl
    clear hl
    go_wp2_with fail
    refine (hg.out _ l hcw.out).mono ?_
    rintro e u ⟨rfl,hb⟩
    have U1:Hid (IsTree u b T):=hT.out.below hb
    have U2:Hid (C u):=hC.out _ _ hcw.out hb
    have U3:Hid (bc w u):=below_then hgr.out hb
    clear hb c0 c1 c2 c3 c4
    cases hf:f l
    . have hf':Hid (∀ j,j<k+1->f (T j)=false):=fun j hj=>by
       rcases Nat.lt_succ_iff_lt_or_eq.1 hj with c | rfl
       . exact hno.out j c
       . rw [HL.out];exact hf
      go_wp2_with fail
      go_roundw
      case rel=>exact ⟨k+1,by omega,by go_num,U1,U2,U3,hf'⟩
      case measure=>simp [intOf];omega
    . go_wp2_with fail
      go_ret
      exact ⟨⟨_,rfl,Or.inl ⟨k,hlt,rfl,by rw [HL.out];exact hf,hno.out⟩⟩,U3.out⟩
  . obtain rfl:k=64:=by omega
    go_wp2_with fail
    go_ret
    exact ⟨⟨_,rfl,Or.inr ⟨rfl,hno.out⟩⟩,hgr.out⟩
theorem below_drew {n:Nat} {w W:World} (h:Below n w W):Below n w W.drew:=⟨h.os,h.tape,h.output,h.size,h.block⟩
def getN (T:Nat->Nd) (i:Int):Nd:=if 0<=i/\i<64 then T i.toNat else Nd.zero
theorem get_out (b:Nat) (i:Int) (hi:i<0\/64<=i) (w:World) :
 Calls Tryz.prog 23 #[.pointer (some ⟨b,0,none⟩),.int .i64 i] w (re (.tuple #[Nd.zero.val,.bool false]) w):=by
 rcases hi with hi | hi
 . have e1:decide (i<0)=true:=by simp [hi]
   go_enter Tryz.func23,Tryz.ntmps23
   go_wp2_with fail
   go_returns
   exact ⟨rfl,baa⟩
 . have e1:decide (i<0)=false:=by simp;omega
   have e2:decide (64<=i)=true:=by simp [hi]
   go_enter Tryz.func23,Tryz.ntmps23
   go_wp2_with fail
   go_returns
   exact ⟨rfl,baa⟩
theorem get_in (b:Nat) (T:Nat->Nd) (k:Nat) (hk:k<64) (w:World) (h:IsTree w b T) :
 Calls Tryz.prog 23 #[.pointer (some ⟨b,0,none⟩),.int .i64 k] w (re (.tuple #[(T k).val,.bool (T k).live]) w):=by
 have e1:decide ((k:Int)<0)=false:=by simp
 have e2:decide (64<=(k:Int))=false:=kg
 have k0:(0:Int)<=(k:Int):=by omega
 have k6:(k:Int)<64:=by omega
 obtain ⟨l,hl⟩: ∃ l,T k=l:=⟨_,rfl⟩
 have c0:w.cell? ⟨b,k*5,none⟩=some (.int .i64 l.par):=h.cell (k) (by omega) 0 _ ke _ (by omega)
 have c1:w.cell? ⟨b,k*5+1,none⟩=some (.int .i64 l.quota):=h.cell (k) (by omega) 1 _ ke _ (by omega)
 have c2:w.cell? ⟨b,k*5+2,none⟩=some (.int .i64 l.used):=h.cell (k) (by omega) 2 _ ke _ (by omega)
 have c3:w.cell? ⟨b,k*5+3,none⟩=some (.int .i64 l.lent):=h.cell (k) (by omega) 3 _ ke _ (by omega)
 have c4:w.cell? ⟨b,k*5+4,none⟩=some (.bool l.live):=h.cell (k) (by omega) 4 _ ke _ (by omega)
 have hb:=h.2.2
 rw [hl]
 clear h hl
 go_enter Tryz.func23,Tryz.ntmps23
 go_wp2_with fail
 go_region
 all_goals (go_wp2_with fail;go_returns;exact ⟨rfl,below_drew baa⟩)
theorem get_any (b:Nat) (T:Nat->Nd) (i:Int) (w:World) (h:IsTree w b T) :
 Calls Tryz.prog 23 #[.pointer (some ⟨b,0,none⟩),.int .i64 i] w (re (.tuple #[(getN T i).val,.bool (getN T i).live]) w):=by
 unfold getN
 by_cases c:0<=i/\i<64
 . obtain ⟨k,rfl⟩: ∃ k:Nat,i=k:=⟨i.toNat,by omega⟩
   simp only [if_pos c,Int.toNat_natCast]
   exact get_in b T k (by omega) w h
 . simp only [if_neg c]
   exact get_out b i (by omega) w
def Nd.ok (l:Nd):Prop:=0<=l.quota/\l.quota<=1048576/\0<=l.used/\l.used<=1048576/\0<=l.lent/\l.lent<=1048576
def OkT (T:Nat->Nd):Prop:= ∀ k,k<64->(T k).ok
theorem zero_ok:Nd.zero.ok:=by unfold Nd.ok Nd.zero;simp
theorem get_ok (T:Nat->Nd) (h:OkT T) (i:Int):(getN T i).ok:=by
 unfold getN
 by_cases c:0<=i/\i<64
 . rw [if_pos c];exact h _ (by omega)
 . rw [if_neg c];exact zero_ok
theorem room_cl (l:Nd) (h:l.ok) (w:World):Calls Tryz.prog 29 #[l.val] w (re (.int .i64 l.room) w):=by
 obtain ⟨p,q,u,n,v⟩:=l
 obtain ⟨h1,h2,h3,h4,h5,h6⟩:=h
 simp only at h1 h2 h3 h4 h5 h6
 go_enter Tryz.func29,Tryz.ntmps29
 go_wp2
 go_returns
 exact ⟨rfl,baa⟩
theorem room_any (b:Nat) (T:Nat->Nd) (hT:OkT T) (i:Int) (w:World) (h:IsTree w b T) :
 Calls Tryz.prog 16 #[.pointer (some ⟨b,0,none⟩),.int .i64 i] w (re (.int .i64 (getN T i).room) w):=by
 have G:Hid (∀ w:World,IsTree w b T->Calls Tryz.prog 23 #[.pointer (some ⟨b,0,none⟩),.int .i64 i] w (re (.tuple #[(getN T i).val,.bool (getN T i).live]) w)):=fun w h=>get_any b T i w h
 have R:Hid (∀ w:World,Calls Tryz.prog 29 #[(getN T i).val] w (re (.int .i64 (getN T i).room) w)):=fun w=>room_cl _ (get_ok T hT i) w
 generalize getN T i=l at G R |-
 obtain ⟨p,q,u,n,v⟩:=l
 generalize (Nd.room ⟨p,q,u,n,v⟩)=z at R |-
 have HT:Hid (IsTree w b T):=h
 clear h hT
 go_enter Tryz.func16,Tryz.ntmps16
 go_wp2_with fail
 refine (G.out _ HT.out).mono ?_
 rintro e u1 ⟨rfl,hb1⟩
 have B1:Hid (bc w u1):=hb1
 clear hb1
 go_wp2_with fail
 refine (R.out _).mono ?_
 rintro e u2 ⟨rfl,hb2⟩
 have B2:Hid (bc w u2):=below_then (below_new B1.out _) hb2
 clear hb2
 go_wp2_with fail
 go_ret
 exact ⟨rfl,B2.out⟩
def mayN (T:Nat->Nd) (i n:Int):Int:=if (getN T i).live=false then 5 else if n<0 then 1 else if (getN T i).room<n then 8 else 0
theorem may_any (b:Nat) (T:Nat->Nd) (hT:OkT T) (i n:Int) (w:World) (h:IsTree w b T) :
 Calls Tryz.prog 24 #[.pointer (some ⟨b,0,none⟩),.int .i64 i,.int .i64 n] w (re (.int .i64 (mayN T i n)) w):=by
 have G:Hid (∀ w:World,IsTree w b T->Calls Tryz.prog 23 #[.pointer (some ⟨b,0,none⟩),.int .i64 i] w (re (.tuple #[(getN T i).val,.bool (getN T i).live]) w)):=fun w h=>get_any b T i w h
 have R:Hid (∀ w:World,Calls Tryz.prog 29 #[(getN T i).val] w (re (.int .i64 (getN T i).room) w)):=fun w=>room_cl _ (get_ok T hT i) w
 unfold mayN
 generalize getN T i=l at G R |-
 obtain ⟨p,q,u,y,v⟩:=l
 generalize (Nd.room ⟨p,q,u,y,v⟩)=z at R |-
 have HT:Hid (IsTree w b T):=h
 clear h hT
 cases v
 . go_enter Tryz.func24,Tryz.ntmps24
   go_wp2_with fail
   refine (G.out _ HT.out).mono ?_
   rintro e u1 ⟨rfl,hb1⟩
   have B1:Hid (bc w u1):=hb1
   clear hb1
   go_wp2_with fail
   go_ret
   exact ⟨rfl,below_new B1.out _⟩
 . by_cases hn:n<0
   . have e1:decide (n<0)=true:=by simp [hn]
     go_enter Tryz.func24,Tryz.ntmps24
     go_wp2_with fail
     refine (G.out _ HT.out).mono ?_
     rintro e u1 ⟨rfl,hb1⟩
     have B1:Hid (bc w u1):=hb1
     clear hb1
     go_wp2_with fail
     go_ret
     exact ⟨by simp [hn],below_new B1.out _⟩
   . have e1:decide (n<0)=false:=by simp;omega
     by_cases hr:z<n
     . have e2:decide (z<n)=true:=by simp [hr]
       go_enter Tryz.func24,Tryz.ntmps24
       go_wp2_with fail
       refine (G.out _ HT.out).mono ?_
       rintro e u1 ⟨rfl,hb1⟩
       have B1:Hid (bc w u1):=hb1
       clear hb1
       go_wp2_with fail
       refine (R.out _).mono ?_
       rintro e u2 ⟨rfl,hb2⟩
       have B2:Hid (bc w u2):=below_then (below_new B1.out _) hb2
       clear hb2
       go_wp2_with fail
       go_ret
       exact ⟨by simp [hn,hr],B2.out⟩
     . have e2:decide (z<n)=false:=by simp;omega
       go_enter Tryz.func24,Tryz.ntmps24
       go_wp2_with fail
       refine (G.out _ HT.out).mono ?_
       rintro e u1 ⟨rfl,hb1⟩
       have B1:Hid (bc w u1):=hb1
       clear hb1
       go_wp2_with fail
       refine (R.out _).mono ?_
       rintro e u2 ⟨rfl,hb2⟩
       have B2:Hid (bc w u2):=below_then (below_new B1.out _) hb2
       clear hb2
       go_wp2_with fail
       go_ret
       exact ⟨by simp [hn,hr],B2.out⟩
theorem IsTree.unfrozen (h:IsTree w b T) (o:Nat) (ho:o<320):w.frozen? ⟨b,o,none⟩=false:=by
 have:=(h.2.1 o ho).2
 rwa [Nat.zero_add] at this
theorem IsTree.drew (h:IsTree w b T):IsTree w.drew b T:=h
theorem grown_drew {w W:World} {r:Option Nat} (h:w.grownBy W r):w.grownBy W.drew r:=⟨h.os,h.tape,h.output,h.size,h.block⟩
theorem live_in {T:Nat->Nd} {i:Int} (h:(getN T i).live=true): ∃ k:Nat,i=k/\k<64/\getN T i=T k:=by
 unfold getN at h |-
 by_cases c:0<=i/\i<64
 . exact ⟨i.toNat,by omega,by omega,by rw [if_pos c]⟩
 . rw [if_neg c] at h;exact absurd h kh
def Nd.plus (l:Nd) (n:Int):Nd:=⟨l.par,l.quota,l.used+n,l.lent,l.live⟩
def Nd.lend (l:Nd) (n:Int):Nd:=⟨l.par,l.quota,l.used,l.lent+n,l.live⟩
def chargeT (T:Nat->Nd) (i n:Int):Nat->Nd:=if mayN T i n=0 then putT T i.toNat ((T i.toNat).plus n) else T
theorem may_zero {T:Nat->Nd} {i n:Int} (h:mayN T i n=0):(getN T i).live=true/\0<=n/\n<=(getN T i).room:=by
 unfold mayN at h
 by_cases a:(getN T i).live=false
 . rw [if_pos a] at h;omega
 . rw [if_neg a] at h
   by_cases c:n<0
   . rw [if_pos c] at h;omega
   . rw [if_neg c] at h
     by_cases d:(getN T i).room<n
     . rw [if_pos d] at h;omega
     . exact ⟨by simpa using a,by omega,by omega⟩
theorem charge_any (b:Nat) (T:Nat->Nd) (hT:OkT T) (i n:Int) (w:World) (h:IsTree w b T) :
 Calls Tryz.prog 14 #[.pointer (some ⟨b,0,none⟩),.int .i64 i,.int .i64 n] w fun e w'=>e=.returned (.int .i64 (mayN T i n))/\IsTree w' b (chargeT T i n)/\w.grownBy w' (some b):=by
 have M:Hid (∀ w:World,IsTree w b T->Calls Tryz.prog 24 #[.pointer (some ⟨b,0,none⟩),.int .i64 i,.int .i64 n] w (re (.int .i64 (mayN T i n)) w)):=fun w h=>may_any b T hT i n w h
 have HT:Hid (IsTree w b T):=h
 by_cases c:mayN T i n=0
 . unfold chargeT
   rw [if_pos c]
   rw [c] at M |-
   obtain ⟨m1,m2,m3⟩:=may_zero c
   obtain ⟨k,rfl,hk,hg⟩:=live_in m1
   rw [hg] at m3
   have hok:=hT k hk
   obtain ⟨l,hl⟩: ∃ l,T k=l:=⟨_,rfl⟩
   rw [Int.toNat_natCast]
   rw [hl] at m3 hok |-
   have ho1:0<=l.used:=hok.2.2.1
   have ho2:l.used<=1048576:=hok.2.2.2.1
   have ho3:n<=1048576:=by
    have:=hok.2.1;have:=hok.2.2.2.2.1;unfold Nd.room at m3;omega
   have hb:=h.2.2
   clear h hok m3 hg m1 c
   have k0:(0:Int)<=(k:Int):=by omega
   have k6:(k:Int)<64:=by omega
   have HL:Hid (T k=l):=hl
   clear hl
   go_enter Tryz.func14,Tryz.ntmps14
   go_wp2_with fail
   refine (M.out _ HT.out).mono ?_
   rintro e u1 ⟨rfl,hb1⟩
   have B1:Hid (bc w u1):=hb1
   have T1:Hid (IsTree u1 b T):=HT.out.below hb1
   have lb:b<u1.heap.size:=nla hb hb1.size
   have c2:u1.cell? ⟨b,k*5+2,none⟩=some (.int .i64 l.used):=T1.out.cell k hk 2 _ ki _ rfl
   have f2:u1.frozen? ⟨b,k*5+2,none⟩=false:=T1.out.unfrozen _ (by omega)
   clear hb1
   go_wp2_with fail
   go_region
   all_goals (go_wp2_with fail;go_ret;exact ⟨rfl,(T1.out.drew.one k hk 2 _ (l.plus n) ki (by omega) _ rfl),grown_trans (grown_of_below (below_drew B1.out) _) (grown_setCell1 _ _ _ _)⟩)
 . unfold chargeT
   rw [if_neg c]
   have cb:(mayN T i n==0)=false:=by simp [c]
   generalize mayN T i n=z at M c cb |-
   clear h
   go_enter Tryz.func14,Tryz.ntmps14
   go_wp2_with fail
   refine (M.out _ HT.out).mono ?_
   rintro e u1 ⟨rfl,hb1⟩
   have B1:Hid (bc w u1):=hb1
   clear hb1
   go_wp2_with fail
   go_ret
   exact ⟨rfl,HT.out.below B1.out,grown_of_below B1.out _⟩
def creditN (T:Nat->Nd) (i n:Int):Int:=if (getN T i).live=false then 5 else if n<0 then 1 else if (getN T i).used<n then 1 else 0
def creditT (T:Nat->Nd) (i n:Int):Nat->Nd:=if creditN T i n=0 then putT T i.toNat ((T i.toNat).plus (-n)) else T
theorem credit_zero {T:Nat->Nd} {i n:Int} (h:creditN T i n=0):(getN T i).live=true/\0<=n/\n<=(getN T i).used:=by
 unfold creditN at h
 by_cases a:(getN T i).live=false
 . rw [if_pos a] at h;omega
 . rw [if_neg a] at h
   by_cases c:n<0
   . rw [if_pos c] at h;omega
   . rw [if_neg c] at h
     by_cases d:(getN T i).used<n
     . rw [if_pos d] at h;omega
     . exact ⟨by simpa using a,by omega,by omega⟩
theorem credit_any (b:Nat) (T:Nat->Nd) (hT:OkT T) (i n:Int) (w:World) (h:IsTree w b T) :
 Calls Tryz.prog 101 #[.pointer (some ⟨b,0,none⟩),.int .i64 i,.int .i64 n] w fun e w'=>e=.returned (.int .i64 (creditN T i n))/\IsTree w' b (creditT T i n)/\w.grownBy w' (some b):=by
 have G:Hid (∀ w:World,IsTree w b T->Calls Tryz.prog 23 #[.pointer (some ⟨b,0,none⟩),.int .i64 i] w (re (.tuple #[(getN T i).val,.bool (getN T i).live]) w)):=fun w h=>get_any b T i w h
 have HT:Hid (IsTree w b T):=h
 by_cases c:creditN T i n=0
 . unfold creditT
   rw [if_pos c,c]
   obtain ⟨m1,m2,m3⟩:=credit_zero c
   obtain ⟨k,rfl,hk,hg⟩:=live_in m1
   rw [hg] at m3 m1 G
   have hok:=hT k hk
   obtain ⟨l,hl⟩: ∃ l,T k=l:=⟨_,rfl⟩
   rw [Int.toNat_natCast]
   rw [hl] at m1 m3 hok G |-
   have ho1:0<=l.used:=hok.2.2.1
   have ho2:l.used<=1048576:=hok.2.2.2.1
   have hb:=h.2.2
   rw [m1] at G
   have e1:decide (n<0)=false:=kg
   have e2:decide (l.used<n)=false:=kg
   clear h hok hg c
   have k0:(0:Int)<=(k:Int):=by omega
   have k6:(k:Int)<64:=by omega
   have HL:Hid (T k=l):=hl
   clear hl
   go_enter Tryz.func101,Tryz.ntmps101
   go_wp2_with fail
   refine (G.out _ HT.out).mono ?_
   rintro e u1 ⟨rfl,hb1⟩
   have B1:Hid (bc w u1):=hb1
   have T1:Hid (IsTree u1 b T):=HT.out.below hb1
   have lb:b<u1.heap.size:=nla hb hb1.size
   have c2:u1.cell? ⟨b,k*5+2,none⟩=some (.int .i64 l.used):=T1.out.cell k hk 2 _ ki _ rfl
   have f2:u1.frozen? ⟨b,k*5+2,none⟩=false:=T1.out.unfrozen _ (by omega)
   clear hb1
   go_wp2_with fail
   go_region
   all_goals (go_wp2_with fail;go_ret;exact ⟨rfl,((T1.out.one k hk 2 _ (l.plus (-n)) ki (by omega) _ rfl).below baa).drew,grown_drew (grown_trans (grown_trans (grown_of_below B1.out _) (grown_setCell1 _ _ _ _)) (grown_alloc _ _ _))⟩)
 . unfold creditT
   rw [if_neg c]
   have KT:=c
   unfold creditN at c KT |-
   generalize getN T i=l at G c |-
   obtain ⟨p,q,u,y,v⟩:=l
   clear h hT KT
   cases v
   . go_enter Tryz.func101,Tryz.ntmps101
     go_wp2_with fail
     refine (G.out _ HT.out).mono ?_
     rintro e u1 ⟨rfl,hb1⟩
     have B1:Hid (bc w u1):=hb1
     clear hb1
     go_wp2_with fail
     go_ret
     exact ⟨rfl,HT.out.below (below_new B1.out _),grown_of_below (below_new B1.out _) _⟩
   . by_cases hn:n<0
     . have e1:decide (n<0)=true:=by simp [hn]
       go_enter Tryz.func101,Tryz.ntmps101
       go_wp2_with fail
       refine (G.out _ HT.out).mono ?_
       rintro e u1 ⟨rfl,hb1⟩
       have B1:Hid (bc w u1):=hb1
       clear hb1
       go_wp2_with fail
       go_ret
       exact ⟨by simp [hn],HT.out.below (below_new B1.out _),grown_of_below (below_new B1.out _) _⟩
     . have e1:decide (n<0)=false:=by simp;omega
       have hu:u<n:=by
        simp only [hn,if_false] at c
        by_cases d:u<n
        . exact d
        . simp [d] at c
       have e2:decide (u<n)=true:=by simp [hu]
       clear c
       go_enter Tryz.func101,Tryz.ntmps101
       go_wp2_with fail
       refine (G.out _ HT.out).mono ?_
       rintro e u1 ⟨rfl,hb1⟩
       have B1:Hid (bc w u1):=hb1
       clear hb1
       go_wp2_with fail
       go_ret
       exact ⟨by simp [hn,hu],HT.out.below (below_new B1.out _),grown_of_below (below_new B1.out _) _⟩
def idxF (f:Nat->Bool):Nat->Nat->Int
 | 0, _ => -1
 | n + 1, k => if f k then k else idxF f n (k + 1)
def idxN (T:Nat->Nd) (f:Nd->Bool):Int:=idxF (fun j=>f (T j)) 64 0
theorem idxF_hit (f:Nat->Bool): ∀ n k i,k<=i->i<k+n->f i=true->(∀ j,k<=j->j<i->f j=false)->idxF f n k=i
 | 0, k, i, h1, h2, _, _ => by omega
 | n + 1, k, i, h1, h2, h3, h4 => by
  unfold idxF
  by_cases c:k=i
  . subst c;rw [if_pos h3]
  . rw [if_neg (by rw [h4 k (Nat.le_refl _) (by omega)];simp)]
    exact idxF_hit f n (k+1) i (by omega) (by omega) h3 (fun j a c=>h4 j (by omega) c)
theorem idxF_miss (f:Nat->Bool): ∀ n k,(∀ j,k<=j->j<k+n->f j=false)->idxF f n k= -1
 | 0, k, _ => rfl
 | n + 1, k, h => by
  unfold idxF
  rw [if_neg (by rw [h k (Nat.le_refl _) (by omega)];simp)]
  exact idxF_miss f n (k+1) (fun j a c=>h j (by omega) (by omega))
theorem idx_eq {T:Nat->Nd} {f:Nd->Bool} {r:Int} (h:IdxIs T f r):r=idxN T f:=by
 rcases h with ⟨i,h1,rfl,h2,h3⟩ | ⟨rfl,h1⟩
 . exact (idxF_hit _ 64 0 i (Nat.zero_le _) (by omega) h2 (fun j _ a=>h3 j a)).symm
 . exact (idxF_miss _ 64 0 (fun j _ a=>h1 j (by omega))).symm
theorem idxF_case (f:Nat->Bool): ∀ n k,(∃ i,k<=i/\i<k+n/\idxF f n k=i/\f i=true/\ ∀ j,k<=j->j<i->f j=false)\/(idxF f n k= -1/\ ∀ j,k<=j->j<k+n->f j=false)
 | 0, k => Or.inr ⟨rfl, fun j a c => by omega⟩
 | n + 1, k => by
  unfold idxF
  by_cases c:f k=true
  . exact Or.inl ⟨k,Nat.le_refl _,by omega,by rw [if_pos c],c,fun j a d=>by omega⟩
  . rw [if_neg c]
    rcases idxF_case f n (k+1) with ⟨i,a1,a2,a3,a4,a5⟩ | ⟨a1,a2⟩
    . exact Or.inl ⟨i,by omega,by omega,a3,a4,fun j d e=>by
       by_cases g:j=k
       . subst g;simpa using c
       . exact a5 j (by omega) e⟩
    . exact Or.inr ⟨a1,fun j d e=>by
       by_cases g:j=k
       . subst g;simpa using c
       . exact a2 j (by omega) (by omega)⟩
theorem idx_is (T:Nat->Nd) (f:Nd->Bool):IdxIs T f (idxN T f):=by
 rcases idxF_case (fun j=>f (T j)) 64 0 with ⟨i,a1,a2,a3,a4,a5⟩ | ⟨a1,a2⟩
 . exact Or.inl ⟨i,by omega,a3,a4,fun j h=>a5 j (Nat.zero_le _) h⟩
 . exact Or.inr ⟨a1,fun j h=>a2 j (Nat.zero_le _) (by omega)⟩
def hasN (T:Nat->Nd) (i:Int):Bool:=decide (0<=idxN T (fun l=>l.live && (l.par==i)))
theorem has_any (b:Nat) (T:Nat->Nd) (i:Int) (w:World) (h:IsTree w b T) :
 Calls Tryz.prog 40 #[.pointer (some ⟨b,0,none⟩),.int .i64 i] w (re (.bool (hasN T i)) w):=by
 have hmf: ∀ (fn:Fn) (first cap:Array Value) (w:World),(Instr.makeFunc fn first cap).run Tryz.prog w=.ok (.func fn first cap) w:=fun _ _ _ _=>rfl
 have hb:=h.2.2
 have D:Hid (∀ W:World,IsTree W b T->(W.cell? ⟨w.heap.size,0,none⟩=some (.int .i64 i)/\w.heap.size<W.heap.size)->Calls Tryz.prog 38 #[.slice (some ⟨b,0,none⟩) 64 64,.func (.func 69) #[] #[.pointer (some ⟨w.heap.size,0,none⟩)]] W (re (.int .i64 (idxN T (fun l=>l.live && (l.par==i)))) W)):=fun W hT hc =>
  (idx1 b 69 w.heap.size T (fun l=>l.live && (l.par==i)) (fun W=>W.cell? ⟨w.heap.size,0,none⟩=some (.int .i64 i)/\w.heap.size<W.heap.size)
   (fun W W' c hg=>⟨(hg.cell (p:=⟨w.heap.size,0,none⟩) c.2).trans c.1,nla c.2 hg.size⟩)
   (fun args w=>by kernel_rfl)
   (fun W l c=>child_cl l _ i W c.1 c.2) W hT hc).mono fun e w' ⟨⟨r,h1,h2⟩,h3⟩=>⟨by rw [h1,idx_eq h2],h3⟩
 unfold hasN
 generalize idxN T (fun l=>l.live && (l.par==i))=r at D |-
 have CC:Hid (∀ W:World,IsTree W b T->(W.cell? ⟨w.heap.size,0,none⟩=some (.int .i64 i)/\w.heap.size<W.heap.size)->Calls Tryz.prog 68 #[.slice (some ⟨b,0,none⟩) 64 64,.func (.func 69) #[] #[.pointer (some ⟨w.heap.size,0,none⟩)]] W (re (.bool (decide (0<=r))) W)):=fun W hT hc=>by
  have HT:Hid (IsTree W b T):=hT
  have HC:Hid (W.cell? ⟨w.heap.size,0,none⟩=some (.int .i64 i)/\w.heap.size<W.heap.size):=hc
  clear hT hc
  go_enter Tryz.func68,Tryz.ntmps68
  go_wp2_with fail
  refine (D.out _ HT.out HC.out).mono ?_
  rintro e u1 ⟨rfl,hb1⟩
  go_wp2_with fail
  go_ret
  exact ⟨rfl,hb1⟩
 have HT:Hid (IsTree w b T):=h
 clear h D
 go_enter Tryz.func40,Tryz.ntmps40
 go_wp2_with fail
 refine (CC.out _ (HT.out.below baa) ⟨by simp,by simp⟩).mono ?_
 rintro e u1 ⟨rfl,hb1⟩
 go_wp2_with fail
 go_ret
 exact ⟨rfl,below_then baa hb1⟩
def endN (T:Nat->Nd) (i:Int):Int:=if (getN T i).live=false\/i=0 then 5 else if 0<(getN T i).used\/hasN T i=true then 11 else 0
def endT (T:Nat->Nd) (i:Int):Nat->Nd:=if endN T i=0 then putT (putT T (T i.toNat).par.toNat ((T (T i.toNat).par.toNat).lend (-(T i.toNat).quota))) i.toNat Nd.zero else T
def ParT (T:Nat->Nd):Prop:= ∀ k,k<64->k≠0->(T k).live=true-> ∃ p:Nat,(T k).par=p/\p<64
theorem end_any (b:Nat) (T:Nat->Nd) (hT:OkT T) (hP:ParT T) (i:Int) (w:World) (h:IsTree w b T) :
 Calls Tryz.prog 27 #[.pointer (some ⟨b,0,none⟩),.int .i64 i] w fun e w'=>e=.returned (.int .i64 (endN T i))/\IsTree w' b (endT T i)/\w.grownBy w' (some b):=by
 have G:Hid (∀ w:World,IsTree w b T->Calls Tryz.prog 23 #[.pointer (some ⟨b,0,none⟩),.int .i64 i] w (re (.tuple #[(getN T i).val,.bool (getN T i).live]) w)):=fun w h=>get_any b T i w h
 have HC:Hid (∀ w:World,IsTree w b T->Calls Tryz.prog 40 #[.pointer (some ⟨b,0,none⟩),.int .i64 i] w (re (.bool (hasN T i)) w)):=fun w h=>has_any b T i w h
 have HT:Hid (IsTree w b T):=h
 have hb:=h.2.2
 by_cases a:(getN T i).live=false
 . have z:endN T i=5:=by unfold endN;rw [if_pos (Or.inl a)]
   have y:endT T i=T:=by unfold endT;rw [z,if_neg kh]
   rw [z,y]
   generalize getN T i=l at G a
   obtain ⟨p,q,u,n,v⟩:=l
   simp only at a
   subst a
   clear h hT hP HC y z
   go_enter Tryz.func27,Tryz.ntmps27
   go_wp2_with fail
   refine (G.out _ HT.out).mono ?_
   rintro e u1 ⟨rfl,hb1⟩
   have B1:Hid (bc w u1):=hb1
   clear hb1
   go_wp2_with fail
   go_ret
   exact ⟨rfl,HT.out.below (below_new B1.out _),grown_of_below (below_new B1.out _) _⟩
 have av:(getN T i).live=true:=by simpa using a
 by_cases i0:i=0
 . have z:endN T i=5:=by unfold endN;rw [if_pos (Or.inr i0)]
   have y:endT T i=T:=by unfold endT;rw [z,if_neg kh]
   rw [z,y]
   generalize getN T i=l at G av
   obtain ⟨p,q,u,n,v⟩:=l
   simp only at av
   subst av
   subst i0
   clear h hT hP HC y z a
   go_enter Tryz.func27,Tryz.ntmps27
   go_wp2_with fail
   refine (G.out _ HT.out).mono ?_
   rintro e u1 ⟨rfl,hb1⟩
   have B1:Hid (bc w u1):=hb1
   clear hb1
   go_wp2_with fail
   go_ret
   exact ⟨rfl,HT.out.below (below_new B1.out _),grown_of_below (below_new B1.out _) _⟩
 have ib:(i==0)=false:=by simp [i0]
 by_cases hu:0<(getN T i).used
 . have z:endN T i=11:=by unfold endN;rw [if_neg (by simp [av,i0]),if_pos (Or.inl hu)]
   have y:endT T i=T:=by unfold endT;rw [z,if_neg kh]
   rw [z,y]
   generalize getN T i=l at G av hu
   obtain ⟨p,q,u,n,v⟩:=l
   simp only at av hu
   subst av
   have e1:decide (0<u)=true:=by simp [hu]
   clear h hT hP HC y z a
   go_enter Tryz.func27,Tryz.ntmps27
   go_wp2_with fail
   refine (G.out _ HT.out).mono ?_
   rintro e u1 ⟨rfl,hb1⟩
   have B1:Hid (bc w u1):=hb1
   clear hb1
   go_wp2_with fail
   go_ret
   exact ⟨rfl,HT.out.below (below_new B1.out _),grown_of_below (below_new B1.out _) _⟩
 by_cases hc:hasN T i=true
 . have z:endN T i=11:=by unfold endN;rw [if_neg (by simp [av,i0]),if_pos (Or.inr hc)]
   have y:endT T i=T:=by unfold endT;rw [z,if_neg kh]
   rw [z,y]
   rw [hc] at HC
   generalize getN T i=l at G av hu
   obtain ⟨p,q,u,n,v⟩:=l
   simp only at av hu
   subst av
   have e1:decide (0<u)=false:=kg
   clear h hT hP y z a hc
   go_enter Tryz.func27,Tryz.ntmps27
   go_wp2_with fail
   refine (G.out _ HT.out).mono ?_
   rintro e u1 ⟨rfl,hb1⟩
   have B1:Hid (bc w u1):=hb1
   clear hb1
   go_wp2_with fail
   refine (HC.out _ (HT.out.below (below_new B1.out _))).mono ?_
   rintro e u2 ⟨rfl,hb2⟩
   have B2:Hid (bc w u2):=below_then (below_new B1.out _) hb2
   clear hb2
   go_wp2_with fail
   go_ret
   exact ⟨rfl,HT.out.below B2.out,grown_of_below B2.out _⟩
 have z:endN T i=0:=by unfold endN;rw [if_neg (by simp [av,i0]),if_neg (by simp only [hu,hc,or_self];simp)]
 have hc':hasN T i=false:=by simpa using hc
 rw [hc'] at HC
 obtain ⟨k,rfl,hk,hg⟩:=live_in av
 rw [hg] at av hu G
 obtain ⟨p,hp,hp6⟩:=hP k hk (by omega) av
 have y:endT T k=putT (putT T p ((T p).lend (-(T k).quota))) k Nd.zero:=by unfold endT;rw [z,if_pos rfl,Int.toNat_natCast,hp,Int.toNat_natCast]
 rw [z,y]
 have ok1:=hT k hk
 have ok2:=hT p hp6
 obtain ⟨m,hm⟩: ∃ m,T p=m:=⟨_,rfl⟩
 obtain ⟨l,hl⟩: ∃ l,T k=l:=⟨_,rfl⟩
 rw [hl] at av hu G hp ok1 |-
 rw [hm] at ok2 |-
 have HL:Hid (T p=m):=hm
 obtain ⟨lp,q,u,n,v⟩:=l
 simp only at av hu hp
 subst av
 subst hp
 have q1:0<=q:=ok1.1
 have q2:q<=1048576:=ok1.2.1
 have n1:0<=m.lent:=ok2.2.2.2.2.1
 have n2:m.lent<=1048576:=ok2.2.2.2.2.2
 have e1:decide (0<u)=false:=kg
 have k0:(0:Int)<=(k:Int):=by omega
 have k6:(k:Int)<64:=by omega
 have p0:(0:Int)<=(p:Int):=by omega
 have p6:(p:Int)<64:=by omega
 clear h hT hP y z a hc hc' ok1 ok2 hm hl hg hu
 go_enter Tryz.func27,Tryz.ntmps27
 go_wp2_with fail
 refine (G.out _ HT.out).mono ?_
 rintro e u1 ⟨rfl,hb1⟩
 have B1:Hid (bc w u1):=hb1
 clear hb1
 go_wp2_with fail
 refine (HC.out _ (HT.out.below (below_new B1.out _))).mono ?_
 rintro e u2 ⟨rfl,hb2⟩
 have B2:Hid (bc w u2):=below_then (below_new B1.out _) hb2
 have x0:u2.cell? ⟨u1.heap.size,0,none⟩=some (.int .i64 p):=(hb2.cell (p:=⟨u1.heap.size,0,none⟩) (by simp)).trans (by simp)
 have x1:u2.cell? ⟨u1.heap.size,1,none⟩=some (.int .i64 q):=(hb2.cell (p:=⟨u1.heap.size,1,none⟩) (by simp)).trans (by simp)
 have T2:Hid (IsTree u2 b T):=HT.out.below B2.out
 have lb:b<u1.heap.size:=nla hb B1.out.size
 have lb2:u1.heap.size<u2.heap.size:=nla (by simp) hb2.size
 have c3:u2.cell? ⟨b,p*5+3,none⟩=some (.int .i64 m.lent):=T2.out.cell p hp6 3 _ ki _ rfl
 have f3:u2.frozen? ⟨b,p*5+3,none⟩=false:=T2.out.unfrozen _ (by omega)
 clear hb2
 go_wp2_with fail
 go_region
 have TX:Hid (IsTree (u2.setCell ⟨b,p*5+3,none⟩ (.int .i64 (m.lent-q))).drew b (putT T p (m.lend (-q)))):=T2.out.drew.one p hp6 3 _ (m.lend (-q)) ki (by omega) _ rfl
 have GX:Hid (w.grownBy (u2.setCell ⟨b,p*5+3,none⟩ (.int .i64 (m.lent-q))).drew (some b)):=grown_drew (grown_trans (grown_of_below B2.out _) (grown_setCell1 _ _ _ _))
 clear c3 f3 x0 x1 T2 B2 lb lb2
 generalize (u2.setCell ⟨b,p*5+3,none⟩ (.int .i64 (m.lent-q))).drew=X at TX GX |-
 go_wp2_with (refine store_pat b (k*5) sk1 ?hx ?hy ?ht ?hi ?h1 ?rest;(case hx=>rfl);(case hy=>rfl);(case ht=>exact TX.out.free _ _ kg);(case hi=>exact node_info);(case h1=>simp [Value.oneCell']))
 go_ret
 exact ⟨rfl,TX.out.put k hk Nd.zero,grown_trans GX.out (grown_setCells _ _ _ _)⟩
def Nd.new (p q:Int):Nd:=⟨p,q,0,0,true⟩
def freeN (T:Nat->Nd):Int:=idxN T (fun l=> !l.live)
def childN (T:Nat->Nd) (p q:Int):Int:=if mayN T p q=0 then (if freeN T<0 then 4 else 0) else mayN T p q
def childI (T:Nat->Nd) (p q:Int):Int:=if childN T p q=0 then freeN T else 0
def childT (T:Nat->Nd) (p q:Int):Nat->Nd:=if childN T p q=0 then putT (putT T (freeN T).toNat (Nd.new p q)) p.toNat ((T p.toNat).lend q) else T
theorem child_any (b:Nat) (T:Nat->Nd) (hT:OkT T) (p q:Int) (w:World) (h:IsTree w b T) :
 Calls Tryz.prog 26 #[.pointer (some ⟨b,0,none⟩),.int .i64 p,.int .i64 q] w fun e w'=>e=.returned (.tuple #[.int .i64 (childI T p q),.int .i64 (childN T p q)])/\IsTree w' b (childT T p q)/\w.grownBy w' (some b):=by
 have M:Hid (∀ w:World,IsTree w b T->Calls Tryz.prog 24 #[.pointer (some ⟨b,0,none⟩),.int .i64 p,.int .i64 q] w (re (.int .i64 (mayN T p q)) w)):=fun w h=>may_any b T hT p q w h
 have D:Hid (∀ W:World,IsTree W b T->Calls Tryz.prog 38 #[.slice (some ⟨b,0,none⟩) 64 64,.func (.func 39) #[] #[]] W (re (.int .i64 (freeN T)) W)):=fun W hT =>
  (idx0 b 39 T (fun l=> !l.live) (fun _=>True) (fun _ _ _ _=>trivial) (fun args w=>by kernel_rfl) (fun W l _=>free_cl l W) W hT trivial).mono fun e w' ⟨⟨r,h1,h2⟩,h3⟩=>⟨by rw [h1,idx_eq h2];rfl,h3⟩
 have HT:Hid (IsTree w b T):=h
 have hb:=h.2.2
 by_cases c:mayN T p q=0
 . have cN:childN T p q=if freeN T<0 then 4 else 0:=by unfold childN;rw [if_pos c]
   rw [c] at M
   rcases idx_is T (fun l=> !l.live) with ⟨r,hr6,hr,hrf,_⟩ | ⟨hr,_⟩
   . have hr':freeN T=r:=hr
     have cz:childN T p q=0:=by rw [cN,if_neg (by omega)]
     have ci:childI T p q=r:=by unfold childI;rw [if_pos cz,hr']
     have ct:childT T p q=putT (putT T r (Nd.new p q)) p.toNat ((T p.toNat).lend q):=by unfold childT;rw [if_pos cz,hr',Int.toNat_natCast]
     rw [cz,ci,ct]
     rw [hr'] at D
     obtain ⟨m1,m2,m3⟩:=may_zero c
     obtain ⟨k,rfl,hk,hg⟩:=live_in m1
     rw [hg] at m1 m3
     rw [Int.toNat_natCast]
     have hne:k≠r:=fun e=>by subst e;simp [m1] at hrf
     have hok:=hT k hk
     obtain ⟨l,hl⟩: ∃ l,T k=l:=⟨_,rfl⟩
     rw [hl] at m3 hok |-
     have ho1:0<=l.lent:=hok.2.2.2.2.1
     have ho2:l.lent<=1048576:=hok.2.2.2.2.2
     have ho3:q<=1048576:=by have:=hok.2.1;have:=hok.2.2.1;unfold Nd.room at m3;omega
     have HL:Hid (T k=l):=hl
     have HN:Hid (k≠r):=hne
     have e1:decide ((r:Int)<0)=false:=by simp
     have k0:(0:Int)<=(k:Int):=by omega
     have k6:(k:Int)<64:=by omega
     have r0:(0:Int)<=(r:Int):=by omega
     have r6:(r:Int)<64:=by omega
     clear h hT c cN hr hr' cz ci ct m1 m3 hg hok hl hrf hne
     go_enter Tryz.func26,Tryz.ntmps26
     go_wp2_with fail
     refine (M.out _ HT.out).mono ?_
     rintro e u1 ⟨rfl,hb1⟩
     have B1:Hid (bc w u1):=hb1
     clear hb1
     go_wp2_with fail
     refine (D.out _ (HT.out.below B1.out)).mono ?_
     rintro e u2 ⟨rfl,hb2⟩
     have B2:Hid (bc w u2):=below_then B1.out hb2
     have T2:Hid (IsTree u2 b T):=HT.out.below B2.out
     clear hb2 B1
     have TX:Hid (IsTree (u2.setCells b (r*5) (sn k q 0 0 true)) b (putT T r (Nd.new k q))):=T2.out.put r hr6 (Nd.new k q)
     have GX:Hid (w.grownBy (u2.setCells b (r*5) (sn k q 0 0 true)) (some b)):=grown_trans (grown_of_below B2.out _) (grown_setCells _ _ _ _)
     go_wp2_with (refine store_pat b (r*5) #[.int .i64 k,.int .i64 q,.int .i64 0,.int .i64 0,.bool true] ?hx ?hy ?ht ?hi ?h1 ?rest;(case hx=>rfl);(case hy=>rfl);(case ht=>exact T2.out.free _ _ kg);(case hi=>exact node_info);(case h1=>simp [Value.oneCell']))
     try simp only [List.toList_toArray]
     clear T2 B2
     generalize u2.setCells b (r*5) (sn k q 0 0 true)=X at TX GX |-
     have lb:b<X.heap.size:=TX.out.2.2
     have c3:X.cell? ⟨b,k*5+3,none⟩=some (.int .i64 l.lent):=TX.out.cell k hk 3 _ (by rw [put_other _ _ _ _ HN.out,HL.out];rfl) _ rfl
     have f3:X.frozen? ⟨b,k*5+3,none⟩=false:=TX.out.unfrozen _ (by omega)
     go_wp2_with fail
     go_region
     all_goals (go_wp2_with fail;go_returns;exact ⟨rfl,(TX.out.drew.one k hk 3 _ (l.lend q) (by rw [put_other _ _ _ _ HN.out,HL.out];rfl) (by omega) _ rfl),grown_drew (grown_trans GX.out (grown_setCell1 _ _ _ _))⟩)
   . have hr':freeN T= -1:=hr
     have cz:childN T p q=4:=by rw [cN,hr',if_pos (by omega)]
     have ci:childI T p q=0:=by unfold childI;rw [if_neg (by rw [cz];decide)]
     have ct:childT T p q=T:=by unfold childT;rw [if_neg (by rw [cz];decide)]
     rw [cz,ci,ct]
     rw [hr'] at D
     clear h hT c cN hr hr' cz ci ct
     go_enter Tryz.func26,Tryz.ntmps26
     go_wp2_with fail
     refine (M.out _ HT.out).mono ?_
     rintro e u1 ⟨rfl,hb1⟩
     have B1:Hid (bc w u1):=hb1
     clear hb1
     go_wp2_with fail
     refine (D.out _ (HT.out.below B1.out)).mono ?_
     rintro e u2 ⟨rfl,hb2⟩
     have B2:Hid (bc w u2):=below_then B1.out hb2
     clear hb2
     go_wp2_with fail
     go_returns
     exact ⟨rfl,HT.out.below B2.out,grown_of_below B2.out _⟩
 . have cz:childN T p q=mayN T p q:=by unfold childN;rw [if_neg c]
   have ci:childI T p q=0:=by unfold childI;rw [if_neg (by rw [cz];exact c)]
   have ct:childT T p q=T:=by unfold childT;rw [if_neg (by rw [cz];exact c)]
   rw [cz,ci,ct]
   have cb:(mayN T p q==0)=false:=by simp [c]
   generalize mayN T p q=z at M c cb |-
   clear h hT cz ci ct
   go_enter Tryz.func26,Tryz.ntmps26
   go_wp2_with fail
   refine (M.out _ HT.out).mono ?_
   rintro e u1 ⟨rfl,hb1⟩
   have B1:Hid (bc w u1):=hb1
   clear hb1
   go_wp2_with fail
   go_returns
   exact ⟨rfl,HT.out.below B1.out,grown_of_below B1.out _⟩
def flatT (T:Nat->Nd):Nat->List Value
 | 0 => []
 | n + 1 => flatT T n ++ (T n).enc
theorem flat_len (T:Nat->Nd): ∀ n,(flatT T n).length=n*5
 | 0 => rfl
 | n + 1 => by rw [flatT, List.length_append, flat_len T n, enc_len]; omega
theorem flat_get (T:Nat->Nd): ∀ n q r,q<n->r<5->(flatT T n)[q*5+r]? =(T q).enc[r]?
 | 0, q, r, h, _ => absurd h (Nat.not_lt_zero _)
 | n + 1, q, r, h, hr => by
  rw [flatT]
  by_cases c:q=n
  . subst c
    rw [List.getElem?_append_right (by rw [flat_len];omega),flat_len]
    congr 1
    omega
  . rw [List.getElem?_append_left (by rw [flat_len];omega)]
    exact flat_get T n q r (by omega) hr
def zT:Nat->Nd:=fun _=>Nd.zero
set_option maxRecDepth 10000 in
theorem zeroT: ∃ Zs:Array Value,(∀ W:World,(zeroValue 91).run Tryz.prog W=.ok (.agg Zs) W)/\Zs.size=320/\ ∀ q r,q<64->r<5->Zs[q*5+r]? =Nd.zero.enc[r]? :=
 ⟨(flatT zT 64).toArray,fun W=>by kernel_rfl,by rw [List.size_toArray,flat_len],fun q r h1 h2=>by rw [List.getElem?_toArray];exact flat_get zT 64 q r h1 h2⟩
theorem IsTree.madeT (w:World) (Zs:Array Value) (T:Nat->Nd) (hs:Zs.size=320) (hz: ∀ q r,q<64->r<5->Zs[q*5+r]? =(T q).enc[r]?):IsTree (w.alloc (.cells Zs 91)) w.heap.size T:=by
 refine ⟨fun i hi j v hv=> ?_,?_,by simp⟩
 . have hj:j<5:=(List.getElem?_eq_some_iff.1 hv).1
   exact (Go.Joins.cell_of_block (own1 w _) _).trans ((hz i j hi hj).trans hv)
 . have:=there_block (own1 w (.cells Zs 91))
   rwa [hs] at this
def rootT (q:Int):Nat->Nd:=putT zT 0 ⟨-1,q,0,0,true⟩
theorem new_ok (q:Int) (h0:0<=q) (h1:q<=1048576) (w:World) :
 Calls Tryz.prog 12 #[.int .i64 q] w fun e w'=>e=.returned (.tuple #[.pointer (some ⟨w.heap.size,0,none⟩),.int .i64 0])/\Own w w' w.heap.size (rootT q):=by
 obtain ⟨Zs,hz,hs,hzz⟩:=zeroT
 have e1:decide (q<0)=false:=kg
 have e2:decide (1048576<q)=false:=kg
 have HZ:Hid (∀ q r,q<64->r<5->Zs[q*5+r]? =Nd.zero.enc[r]?):=hzz
 clear hzz
 go_enter Tryz.func12,Tryz.ntmps12
 go_wp2_with fail
 go_returns
 refine ⟨rfl,IsTree.madeT w _ (rootT q) (by simp [hs]) ?_,baa,Nat.le_refl _⟩
 intro j r hj hr
 by_cases c:j=0
 . subst c
   rw [show rootT q 0=⟨-1,q,0,0,true⟩ from put_same _ _ _]
   rcases (show r=0\/r=1\/r=2\/r=3\/r=4 by omega) with rfl | rfl | rfl | rfl | rfl <;> simp [Array.getElem?_setIfInBounds,hs,Nd.enc]
 . rw [show rootT q j=Nd.zero from put_other _ _ _ _ c,<- HZ.out j r hj hr]
   have n0: ¬ (0=j*5+r):=by omega
   have n1: ¬ (1=j*5+r):=by omega
   have n2: ¬ (2=j*5+r):=by omega
   have n3: ¬ (3=j*5+r):=by omega
   have n4: ¬ (4=j*5+r):=by omega
   simp only [Array.getElem?_setIfInBounds,n0,n1,n2,n3,n4,if_false]
def sm (f:Nat->Int):Nat->Int
 | 0 => 0
 | n + 1 => sm f n + f n
theorem sm_congr {f g:Nat->Int}: ∀ n,(∀ j,j<n->f j=g j)->sm f n=sm g n
 | 0, _ => rfl
 | n + 1, h => by rw [sm, sm, sm_congr n (fun j hj => h j (by omega)), h n (by omega)]
theorem sm_nonneg {f:Nat->Int}: ∀ n,(∀ j,j<n->0<=f j)->0<=sm f n
 | 0, _ => Int.le_refl _
 | n + 1, h => by
  have:=sm_nonneg n (fun j hj=>h j (by omega))
  have:=h n (by omega)
  rw [sm];omega
theorem sm_zero {f:Nat->Int}: ∀ n,(∀ j,j<n->f j=0)->sm f n=0
 | 0, _ => rfl
 | n + 1, h => by rw [sm, sm_zero n (fun j hj => h j (by omega)), h n (by omega)]; rfl
theorem sm_upd {f g:Nat->Int} (i:Nat): ∀ n,i<n->(∀ j,j<n->j≠i->f j=g j)->sm f n=sm g n+f i-g i
 | 0, h, _ => absurd h (Nat.not_lt_zero _)
 | n + 1, h, e => by
  rw [sm,sm]
  by_cases c:i=n
  . subst c
    rw [sm_congr i (fun j hj=>e j (by omega) (by omega))];omega
  . rw [sm_upd i n (by omega) (fun j hj=>e j (by omega)),e n (by omega) (fun a=>c a.symm)];omega
def part (l:Nd) (i:Int):Int:=if (l.live && (l.par==i))=true then l.quota else 0
def lentOf (T:Nat->Nd) (i:Int):Int:=sm (fun j=>part (T j) i) 64
theorem part_yes {l:Nd} {i:Int} (h1:l.live=true) (h2:l.par=i):part l i=l.quota:=by unfold part;rw [if_pos (by simp [h1,h2])]
theorem part_dead {l:Nd} {i:Int} (h1:l.live=false):part l i=0:=by unfold part;rw [if_neg (by simp [h1])]
theorem part_no {l:Nd} {i:Int} (h2:l.par≠i):part l i=0:=by unfold part;rw [if_neg (by simp [h2])]
theorem part_same {l m:Nd} {i:Int} (h1:l.live=m.live) (h2:l.par=m.par) (h3:l.quota=m.quota):part l i=part m i:=by unfold part;rw [h1,h2,h3]
structure Good (T:Nat->Nd) (root:Int):Prop where
 live0:(T 0).live=true
 par0:(T 0).par= -1
 quota0:(T 0).quota=root
 rb0:0<=root
 rb1:root<=1048576
 nn: ∀ k,k<64->0<=(T k).quota/\0<=(T k).used/\0<=(T k).lent/\(T k).used+(T k).lent<=(T k).quota/\(T k).quota<=root
 dead: ∀ k,k<64->(T k).live=false->T k=Nd.zero
 par: ∀ k,k<64->k≠0->(T k).live=true-> ∃ p:Nat,(T k).par=p/\p<64/\(T p).live=true
 lent: ∀ k,k<64->(T k).lent=lentOf T k
 rank: ∃ d:Nat->Nat,∀ k,k<64->k≠0->(T k).live=true->d (T k).par.toNat<d k
theorem Good.okT {T:Nat->Nd} {root:Int} (g:Good T root):OkT T:=fun k hk=>by
 have:=g.nn k hk
 have:=g.rb1
 unfold Nd.ok
 omega
theorem Good.parT {T:Nat->Nd} {root:Int} (g:Good T root):ParT T:=fun k hk h0 hl=>by
 obtain ⟨p,h1,h2,_⟩:=g.par k hk h0 hl
 exact ⟨p,h1,h2⟩
theorem root_good (q:Int) (h0:0<=q) (h1:q<=1048576):Good (rootT q) q:=by
 have o: ∀ k,k≠0->rootT q k=Nd.zero:=fun k hk=>put_other _ _ _ _ hk
 have z:rootT q 0=⟨-1,q,0,0,true⟩:=put_same _ _ _
 refine ⟨by rw [z],by rw [z],by rw [z],h0,h1,?_,?_,?_,?_,⟨fun _=>0,?_⟩⟩
 . intro k hk
   by_cases c:k=0
   . subst c;rw [z];simp;try omega
   . rw [o k c];simp [Nd.zero];try omega
 . intro k hk hl
   by_cases c:k=0
   . subst c;rw [z] at hl;simp at hl
   . exact o k c
 . intro k hk c hl;rw [o k c] at hl;simp [Nd.zero] at hl
 . intro k hk
   have:lentOf (rootT q) k=0:=sm_zero 64 (fun j hj=>by
    by_cases c:j=0
    . subst c;rw [z];exact part_no (by simp;try omega)
    . rw [o j c];exact part_dead rfl)
   rw [this]
   by_cases c:k=0
   . subst c;rw [z]
   . rw [o k c];rfl
 . intro k hk c hl;rw [o k c] at hl;simp [Nd.zero] at hl
theorem Good.used {T:Nat->Nd} {root:Int} (g:Good T root) (k:Nat) (hk:k<64) (hl:(T k).live=true) (n:Int) (h1:0<=(T k).used+n) (h2:(T k).used+n+(T k).lent<=(T k).quota):Good (putT T k ((T k).plus n)) root:=by
 have e: ∀ j,(putT T k ((T k).plus n) j).live=(T j).live/\(putT T k ((T k).plus n) j).par=(T j).par/\(putT T k ((T k).plus n) j).quota=(T j).quota/\(putT T k ((T k).plus n) j).lent=(T j).lent:=fun j=>by
  by_cases c:j=k
  . subst c;rw [put_same];exact ⟨rfl,rfl,rfl,rfl⟩
  . rw [put_other _ _ _ _ c];exact ⟨rfl,rfl,rfl,rfl⟩
 have el: ∀ i,lentOf (putT T k ((T k).plus n)) i=lentOf T i:=fun i=>sm_congr 64 (fun j _=>part_same (e j).1 (e j).2.1 (e j).2.2.1)
 refine ⟨by rw [(e 0).1];exact g.live0,by rw [(e 0).2.1];exact g.par0,by rw [(e 0).2.2.1];exact g.quota0,g.rb0,g.rb1,?_,?_,?_,?_,?_⟩
 . intro j hj
   have:=g.nn j hj
   by_cases c:j=k
   . subst c;rw [put_same]
     refine ⟨this.1,h1,this.2.2.1,h2,this.2.2.2.2⟩
   . rw [put_other _ _ _ _ c];exact this
 . intro j hj h
   rw [(e j).1] at h
   by_cases c:j=k
   . subst c;rw [hl] at h;simp at h
   . rw [put_other _ _ _ _ c];exact g.dead j hj h
 . intro j hj h0 h
   rw [(e j).1] at h
   obtain ⟨p,a,b,c⟩:=g.par j hj h0 h
   exact ⟨p,by rw [(e j).2.1];exact a,b,by rw [(e p).1];exact c⟩
 . intro j hj
   rw [(e j).2.2.2,el];exact g.lent j hj
 . obtain ⟨d,hd⟩:=g.rank
   exact ⟨d,fun j hj h0 h=>by rw [(e j).2.1];rw [(e j).1] at h;exact hd j hj h0 h⟩
theorem Good.charge {T:Nat->Nd} {root:Int} (g:Good T root) (i n:Int):Good (chargeT T i n) root:=by
 unfold chargeT
 by_cases c:mayN T i n=0
 . rw [if_pos c]
   obtain ⟨m1,m2,m3⟩:=may_zero c
   obtain ⟨k,rfl,hk,hg⟩:=live_in m1
   rw [hg] at m1 m3
   rw [Int.toNat_natCast]
   have:=g.nn k hk
   unfold Nd.room at m3
   exact g.used k hk m1 n (by omega) (by omega)
 . rw [if_neg c];exact g
theorem Good.credit {T:Nat->Nd} {root:Int} (g:Good T root) (i n:Int):Good (creditT T i n) root:=by
 unfold creditT
 by_cases c:creditN T i n=0
 . rw [if_pos c]
   obtain ⟨m1,m2,m3⟩:=credit_zero c
   obtain ⟨k,rfl,hk,hg⟩:=live_in m1
   rw [hg] at m1 m3
   rw [Int.toNat_natCast]
   have:=g.nn k hk
   exact g.used k hk m1 (-n) (by omega) (by omega)
 . rw [if_neg c];exact g
theorem child_zero {T:Nat->Nd} {p q:Int} (h:childN T p q=0):mayN T p q=0/\ ∃ r:Nat,r<64/\freeN T=r/\(T r).live=false:=by
 unfold childN at h
 by_cases c:mayN T p q=0
 . rw [if_pos c] at h
   refine ⟨c,?_⟩
   rcases idx_is T (fun l=> !l.live) with ⟨r,a1,a2,a3,_⟩ | ⟨a1,_⟩
   . exact ⟨r,a1,a2,by simpa using a3⟩
   . have a1':freeN T= -1:=a1
     rw [a1',if_pos (by omega)] at h;omega
 . rw [if_neg c] at h;exact absurd h c
theorem Good.child {T:Nat->Nd} {root:Int} (g:Good T root) (p q:Int):Good (childT T p q) root:=by
 unfold childT
 by_cases c:childN T p q=0
 rotate_left
 . rw [if_neg c];exact g
 rw [if_pos c]
 obtain ⟨c1,r,hr6,hr,hrl⟩:=child_zero c
 obtain ⟨m1,m2,m3⟩:=may_zero c1
 obtain ⟨k,rfl,hk,hg⟩:=live_in m1
 rw [hg] at m1 m3
 rw [hr,Int.toNat_natCast,Int.toNat_natCast]
 have hkr:k≠r:=fun e=>by subst e;rw [m1] at hrl;simp at hrl
 have hr0:r≠0:=fun e=>by subst e;rw [g.live0] at hrl;simp at hrl
 have zr:=g.dead r hr6 hrl
 obtain ⟨T',hT'⟩: ∃ T',T'=putT (putT T r (Nd.new k q)) k ((T k).lend q):=⟨_,rfl⟩
 rw [<- hT']
 have ek:T' k=(T k).lend q:=by rw [hT',put_same]
 have er:T' r=Nd.new k q:=by rw [hT',put_other _ _ _ _ (fun e=>hkr e.symm),put_same]
 have eo: ∀ j,j≠k->j≠r->T' j=T j:=fun j a b=>by rw [hT',put_other _ _ _ _ a,put_other _ _ _ _ b]
 have e3: ∀ j,j≠r->(T' j).live=(T j).live/\(T' j).par=(T j).par/\(T' j).quota=(T j).quota/\(T' j).used=(T j).used:=fun j a=>by
  by_cases b:j=k
  . subst b;rw [ek];exact ⟨rfl,rfl,rfl,rfl⟩
  . rw [eo j b a];exact ⟨rfl,rfl,rfl,rfl⟩
 have gk:=g.nn k hk
 unfold Nd.room at m3
 have el: ∀ i:Nat,lentOf T' i=lentOf T i+(if i=k then q else 0):=fun i=>by
  have h1:=sm_upd (f:=fun j=>part (T' j) i) (g:=fun j=>part (T j) i) r 64 hr6 (fun j _ a=>part_same (e3 j a).1 (e3 j a).2.1 (e3 j a).2.2.1)
  have h2:part (T r) i=0:=part_dead hrl
  have h3:part (T' r) (i:Int)=if i=k then q else 0:=by
   rw [er]
   by_cases b:i=k
   . rw [if_pos b];exact part_yes rfl (by subst b;rfl)
   . rw [if_neg b];exact part_no (by show (k:Int)≠i;omega)
  show sm (fun j=>part (T' j) i) 64=_
  rw [h1]
  try simp only
  rw [h2,h3]
  show lentOf T i+_-0=_
  omega
 refine ⟨by rw [(e3 0 (fun e=>hr0 e.symm)).1];exact g.live0,by rw [(e3 0 (fun e=>hr0 e.symm)).2.1];exact g.par0,by rw [(e3 0 (fun e=>hr0 e.symm)).2.2.1];exact g.quota0,g.rb0,g.rb1,?_,?_,?_,?_,?_⟩
 . intro j hj
   by_cases a:j=r
   . subst a;rw [er];unfold Nd.new;simp only;omega
   . by_cases b:j=k
     . subst b;rw [ek];unfold Nd.lend;simp only;omega
     . rw [eo j b a];exact g.nn j hj
 . intro j hj h
   by_cases a:j=r
   . subst a;rw [er] at h;simp [Nd.new] at h
   . rw [(e3 j a).1] at h
     by_cases b:j=k
     . subst b;rw [m1] at h;simp at h
     . rw [eo j b a];exact g.dead j hj h
 . intro j hj h0 h
   by_cases a:j=r
   . subst a
     exact ⟨k,by rw [er];rfl,hk,by rw [(e3 k hkr).1];exact m1⟩
   . rw [(e3 j a).1] at h
     obtain ⟨p,x,y,z⟩:=g.par j hj h0 h
     have pr:p≠r:=fun e=>by subst e;rw [z] at hrl;simp at hrl
     exact ⟨p,by rw [(e3 j a).2.1];exact x,y,by rw [(e3 p pr).1];exact z⟩
 . intro j hj
   rw [el j]
   by_cases a:j=r
   . subst a
     have:=g.lent j hj
     rw [zr] at this
     rw [er,<- this,if_neg (fun e=>hkr e.symm)];rfl
   . by_cases b:j=k
     . subst b;rw [ek,if_pos rfl,<- g.lent j hj];rfl
     . rw [eo j b a,if_neg b,g.lent j hj];omega
 . obtain ⟨d,hd⟩:=g.rank
   refine ⟨fun j=>if j=r then d k+1 else d j,fun j hj h0 h=> ?_⟩
   by_cases a:j=r
   . subst a
     rw [er]
     show (if (Nd.new k q).par.toNat=j then d k+1 else d (Nd.new k q).par.toNat)<if j=j then d k+1 else d j
     have:(Nd.new k q).par.toNat=k:=Int.toNat_natCast k
     rw [this,if_pos rfl,if_neg hkr];omega
   . rw [(e3 j a).1] at h
     obtain ⟨p,x,y,z⟩:=g.par j hj h0 h
     have pr:p≠r:=fun e=>by subst e;rw [z] at hrl;simp at hrl
     have:=hd j hj h0 h
     rw [(e3 j a).2.1]
     rw [x,Int.toNat_natCast] at this |-
     simp only [if_neg pr,if_neg a];exact this
theorem has_iff (T:Nat->Nd) (i:Int):hasN T i=true↔ ∃ j,j<64/\(T j).live=true/\(T j).par=i:=by
 unfold hasN
 rcases idx_is T (fun l=>l.live && (l.par==i)) with ⟨r,a1,a2,a3,_⟩ | ⟨a1,a2⟩
 . rw [a2]
   simp only [Bool.and_eq_true,beq_iff_eq] at a3
   exact ⟨fun _=>⟨r,a1,a3.1,a3.2⟩,fun _=>by simp⟩
 . rw [a1]
   constructor
   . intro h;simp at h
   . rintro ⟨j,b1,b2,b3⟩
     have:=a2 j b1
     simp [b2,b3] at this
theorem end_zero {T:Nat->Nd} {i:Int} (h:endN T i=0):(getN T i).live=true/\i≠0/\ ¬ 0<(getN T i).used/\hasN T i=false:=by
 unfold endN at h
 by_cases a:(getN T i).live=false\/i=0
 . rw [if_pos a] at h;omega
 . rw [if_neg a] at h
   by_cases c:0<(getN T i).used\/hasN T i=true
   . rw [if_pos c] at h;omega
   . exact ⟨by simpa using fun e=>a (Or.inl e),fun e=>a (Or.inr e),fun e=>c (Or.inl e),by simpa using fun e=>c (Or.inr e)⟩
theorem Good.ends {T:Nat->Nd} {root:Int} (g:Good T root) (i:Int):Good (endT T i) root:=by
 unfold endT
 by_cases c:endN T i=0
 rotate_left
 . rw [if_neg c];exact g
 rw [if_pos c]
 obtain ⟨m1,m2,m3,m4⟩:=end_zero c
 obtain ⟨k,rfl,hk,hg⟩:=live_in m1
 rw [hg] at m1 m3
 rw [Int.toNat_natCast]
 have hk0:k≠0:=by omega
 obtain ⟨p,hp,hp6,hpl⟩:=g.par k hk hk0 m1
 rw [hp,Int.toNat_natCast]
 have hno: ∀ j,j<64->(T j).live=true->(T j).par≠k:=fun j hj hl e=>by
  have:=(has_iff T k).2 ⟨j,hj,hl,e⟩
  rw [m4] at this;simp at this
 have hpk:p≠k:=fun e=>hno k hk m1 (by rw [hp,e])
 obtain ⟨T',hT'⟩: ∃ T',T'=putT (putT T p ((T p).lend (-(T k).quota))) k Nd.zero:=⟨_,rfl⟩
 rw [<- hT']
 have ek:T' k=Nd.zero:=by rw [hT',put_same]
 have ep:T' p=(T p).lend (-(T k).quota):=by rw [hT',put_other _ _ _ _ hpk,put_same]
 have eo: ∀ j,j≠k->j≠p->T' j=T j:=fun j a b=>by rw [hT',put_other _ _ _ _ a,put_other _ _ _ _ b]
 have e3: ∀ j,j≠k->(T' j).live=(T j).live/\(T' j).par=(T j).par/\(T' j).quota=(T j).quota/\(T' j).used=(T j).used:=fun j a=>by
  by_cases b:j=p
  . subst b;rw [ep];exact ⟨rfl,rfl,rfl,rfl⟩
  . rw [eo j a b];exact ⟨rfl,rfl,rfl,rfl⟩
 have el: ∀ i:Nat,lentOf T' i=lentOf T i-(if i=p then (T k).quota else 0):=fun i=>by
  have h1:=sm_upd (f:=fun j=>part (T' j) i) (g:=fun j=>part (T j) i) k 64 hk (fun j _ a=>part_same (e3 j a).1 (e3 j a).2.1 (e3 j a).2.2.1)
  have h2:part (T' k) i=0:=by rw [ek];exact part_dead rfl
  have h3:part (T k) (i:Int)=if i=p then (T k).quota else 0:=by
   by_cases b:i=p
   . rw [if_pos b];exact part_yes m1 (by rw [hp,b])
   . rw [if_neg b];exact part_no (by rw [hp];omega)
  show sm (fun j=>part (T' j) i) 64=_
  rw [h1]
  try simp only
  rw [h2,h3]
  show lentOf T i+0-_=_
  omega
 have zk:lentOf T k=0:=sm_zero 64 (fun j hj=>by
  by_cases a:(T j).live=true
  . exact part_no (hno j hj a)
  . exact part_dead (by simpa using a))
 have pos:0<=lentOf T' p:=sm_nonneg 64 (fun j hj=>by
  show 0<=part (T' j) p
  unfold part
  by_cases a:((T' j).live && ((T' j).par==(p:Int)))=true
  . rw [if_pos a]
    by_cases b:j=k
    . subst b;rw [ek];simp [Nd.zero]
    . rw [(e3 j b).2.2.1];exact (g.nn j hj).1
  . rw [if_neg a];omega)
 rw [el p,if_pos rfl,<- g.lent p hp6] at pos
 have gk:=g.nn k hk
 have gp:=g.nn p hp6
 refine ⟨by rw [(e3 0 (fun e=>hk0 e.symm)).1];exact g.live0,by rw [(e3 0 (fun e=>hk0 e.symm)).2.1];exact g.par0,by rw [(e3 0 (fun e=>hk0 e.symm)).2.2.1];exact g.quota0,g.rb0,g.rb1,?_,?_,?_,?_,?_⟩
 . intro j hj
   by_cases a:j=k
   . subst a;rw [ek];have:=g.rb0;simp [Nd.zero];try omega
   . by_cases b:j=p
     . subst b;rw [ep];unfold Nd.lend;simp only;omega
     . rw [eo j a b];exact g.nn j hj
 . intro j hj h
   by_cases a:j=k
   . subst a;exact ek
   . rw [(e3 j a).1] at h
     by_cases b:j=p
     . subst b;rw [hpl] at h;simp at h
     . rw [eo j a b];exact g.dead j hj h
 . intro j hj h0 h
   by_cases a:j=k
   . subst a;rw [ek] at h;simp [Nd.zero] at h
   . rw [(e3 j a).1] at h
     obtain ⟨p',x,y,z⟩:=g.par j hj h0 h
     have pk:p'≠k:=fun e=>hno j hj h (by rw [x,e])
     exact ⟨p',by rw [(e3 j a).2.1];exact x,y,by rw [(e3 p' pk).1];exact z⟩
 . intro j hj
   rw [el j]
   by_cases a:j=k
   . subst a
     rw [ek,zk,if_neg (fun e=>hpk e.symm)];rfl
   . by_cases b:j=p
     . subst b;rw [ep,if_pos rfl,<- g.lent j hj];rfl
     . rw [eo j a b,if_neg b,g.lent j hj];omega
 . obtain ⟨d,hd⟩:=g.rank
   refine ⟨d,fun j hj h0 h=> ?_⟩
   by_cases a:j=k
   . subst a;rw [ek] at h;simp [Nd.zero] at h
   . rw [(e3 j a).1] at h
     rw [(e3 j a).2.1];exact hd j hj h0 h
end
end Go.Proofs.YtokpmclmdobgeaaGreat.Qo
