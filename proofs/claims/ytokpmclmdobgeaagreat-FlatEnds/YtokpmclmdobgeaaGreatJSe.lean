import Derived.Test.YtokpmclmdobgeaaGreatKZe
import Derived.Test.YtokpmclmdobgeaaGreatChecked
import Derived.WalkKit
import Derived.ProofKit
import Derived.OpenShut
import Derived.Carry
import Derived.Lib.SmallJoins
import Derived.Deep.Light
import Derived.Deep.MidRow
import Derived.Deep.RegionHeld3
import Derived.Deep.DrawnRows
import Derived.Handy
import Derived.Laws.MakeOwn
import Derived.MapKept
import Derived.Laws.Tables
import Derived.ChangeKeysEq
import Derived.Deep.DeepCutAuto
import Derived.Maps.AppendAt
set_option linter.unusedSimpArgs false
set_option linter.unusedVariables false
set_option maxRecDepth 8000
set_option maxHeartbeats 8000000
open Go.ChangeShapes Go.WideShapes Go.ChangeAt Go.RowKit Go.Maps
namespace Go.Proofs.YtokpmclmdobgeaaGreat.Sh
variable {E:Value × Value × Value}
structure Gr where
 fr:Int
 pg:Int
 dst:Int
 wr:Bool
 tk:Bool
 att:Int
def Gr.enc (n:Gr):List Value:=(sa1 n.fr n.pg n.dst n.wr n.tk n.att)
abbrev Gr.val (n:Gr):Value:=.agg (sb1 n.fr n.pg n.dst n.wr n.tk n.att)
def Gr.zero:Gr:=⟨0,0,0,false,false,0⟩
def Gr.is (n:Gr):Bool:= !(n.fr==n.dst)
def IsTab (E:Value × Value × Value) (w:World) (b:Nat) (T:Nat->Gr):Prop:=(∀ i,i<256->w.rangeAt b (2+i*6) (T i).enc)/\w.there b 2 1536/\b<w.heap.size/\w.rangeAt b 0 [E.1,E.2.1]/\w.rangeAt b 1538 [E.2.2]
theorem below_new {w w':World} (h:bc w w') (o:Obj):bc w (w'.alloc o):=h.alloc h.size o
theorem below_then {w x y:World} (h1:bc w x) (h2:bc x y):bc w y:=h1.trans (Go.Joins.below_le h2 h1.size)
theorem grown_of_below {w w':World} (h:bc w w') (r:Option Nat):w.grownBy w' r:=⟨h.os,h.tape,h.output,h.size,fun k hk _=>h.block k hk⟩
theorem grown_setCell1 (w:World) (b o:Nat) (v:Value):w.grownBy (w.setCell ⟨b,o,none⟩ v) (some b):=by
 have h:Below 0 w (w.setCell ⟨b,o,none⟩ v):=(Below.refl 0 w).setCell (Nat.zero_le _) v
 exact ⟨h.os,h.tape,h.output,h.size,fun k hk hne=>Below.heap_setCell _ _ _ _ (fun e=>hne (by rw [show k=b from e]))⟩
theorem grown_trans {a b c:World} {r:Option Nat} (h:a.grownBy b r) (k:b.grownBy c r):a.grownBy c r:=⟨k.os.trans h.os,k.tape.trans h.tape,k.output.trans h.output,Nat.le_trans h.size k.size,fun j hj hne=>(k.block j (nla hj h.size) hne).trans (h.block j hj hne)⟩
theorem grown_refl (a:World) (r:Option Nat):a.grownBy a r:=⟨rfl,rfl,rfl,Nat.le_refl _,fun _ _ _=>rfl⟩
theorem grown_setCells (b:Nat): ∀ (vs:List Value) (o:Nat) (w:World),w.grownBy (w.setCells b o vs) (some b)
 | [], _, w => grown_refl w _
 | v :: r, o, w => by
  rw [World.setCells]
  exact grown_trans (grown_setCell1 w b o v) (grown_setCells b r (o+1) _)
theorem kept_size (w:World) (b o:Nat) (vs:List Value):w.heap.size<=(w.setCells b o vs).heap.size:=(grown_setCells b vs o w).size
theorem IsTab.below {w w':World} {b:Nat} {T:Nat->Gr} (h:IsTab E w b T) (hb:bc w w'):IsTab E w' b T:=by
 obtain ⟨h1,h2,h3,h4,h5⟩:=h
 refine ⟨fun i hi j v hv=> ?_,fun j hj=> ?_,nla h3 hb.size,fun j v hj=>(hb.cell (p:=⟨b,0+j,none⟩) h3).trans (h4 j v hj),fun j v hj=>(hb.cell (p:=⟨b,1538+j,none⟩) h3).trans (h5 j v hj)⟩
 . rw [hb.cell (p:=⟨b,2+i*6+j,none⟩) h3];exact h1 i hi j v hv
 . rw [hb.cell (p:=⟨b,2+j,none⟩) h3,hb.frozen (p:=⟨b,2+j,none⟩) h3];exact h2 j hj
theorem enc_len (l:Gr):l.enc.length=6:=rfl
section
variable {w:World} {b:Nat} {T:Nat->Gr}
theorem IsTab.free (h:IsTab E w b T) (o n:Nat) (ho:2<=o/\o+n<=1538):w.there b o n:=fun j hj=>by
 have:=h.2.1 (o-2+j) (by omega)
 rwa [show 2+(o-2+j)=o+j by omega] at this
def putT (T:Nat->Gr) (i:Nat) (l:Gr):Nat->Gr:=fun k=>if k=i then l else T k
theorem put_same (T:Nat->Gr) (i:Nat) (l:Gr):putT T i l i=l:=if_pos rfl
theorem put_other (T:Nat->Gr) (i:Nat) (l:Gr) (k:Nat) (h:k≠i):putT T i l k=T k:=if_neg h
theorem IsTab.put (h:IsTab E w b T) (i:Nat) (hi:i<256) (l:Gr):IsTab E (w.setCells b (2+i*6) l.enc) b (putT T i l):=by
 obtain ⟨h1,h2,h3,h4,h5⟩:=h
 refine ⟨fun k hk=> ?_,World.there_setCells h2 _ _ _,nla h3 (kept_size w b (2+i*6) l.enc),World.rangeAt_setCells_apart h4 b (2+i*6) l.enc (Or.inr (by simp only [enc_len,List.length_cons,List.length_nil];omega)),World.rangeAt_setCells_apart h5 b (2+i*6) l.enc (Or.inr (by simp only [enc_len,List.length_cons,List.length_nil];omega))⟩
 by_cases c:k=i
 . subst c;rw [put_same];exact World.rangeAt_setCells_same w b (2+k*6) l.enc (IsTab.free (E:=E) (T:=T) ⟨h1,h2,h3,h4,h5⟩ _ _ (by simp only [enc_len];omega))
 . rw [put_other _ _ _ _ c]
   refine World.rangeAt_setCells_apart (h1 k hk) b (2+i*6) l.enc (Or.inr ?_)
   simp only [enc_len]
   omega
theorem IsTab.cell (h:IsTab E w b T) (i:Nat) (hi:i<256) (c:Nat) (v:Value) (hv:(T i).enc[c]? =some v) (o:Nat) (ho:o=2+i*6+c):w.cell? ⟨b,o,none⟩=some v:=by rw [ho];exact h.1 i hi c v hv
theorem IsTab.one (h:IsTab E w b T) (i:Nat) (hi:i<256) (c:Nat) (v:Value) (l:Gr) (hl:l.enc=(T i).enc.set c v) (hc:c<6) (o:Nat) (ho:o=2+i*6+c):IsTab E (w.setCell ⟨b,o,none⟩ v) b (putT T i l):=by
 subst ho
 obtain ⟨h1,h2,h3,h4,h5⟩:=h
 have e:w.setCell ⟨b,2+i*6+c,none⟩ v=w.setCells b (2+i*6+c) [v]:=by rw [World.setCells,World.setCells]
 rw [e]
 refine ⟨fun k hk=> ?_,World.there_setCells h2 _ _ _,nla h3 (kept_size w b _ _),World.rangeAt_setCells_apart h4 b (2+i*6+c) [v] (Or.inr (by simp only [List.length_cons,List.length_nil];omega)),World.rangeAt_setCells_apart h5 b (2+i*6+c) [v] (Or.inr (by simp only [List.length_cons,List.length_nil];omega))⟩
 by_cases d:k=i
 . subst d;rw [put_same,hl]
   intro j x hj
   have hj5:j<6:=by have:=(List.getElem?_eq_some_iff.1 hj).1;simpa [enc_len] using this
   by_cases f:j=c
   . subst f
     have hx:x=v:=by
      rw [List.getElem?_set_self (by rw [enc_len];exact hj5)] at hj
      exact (sia hj).symm
     subst hx
     exact World.rangeAt_setCells_same w b (2+k*6+j) [x] (IsTab.free (E:=E) (T:=T) ⟨h1,h2,h3,h4,h5⟩ _ _ (by simp only [List.length_cons,List.length_nil];omega)) 0 x rfl
   . rw [List.getElem?_set_ne (fun q=>f q.symm)] at hj
     rw [World.cell?_setCells_out b [v] _ w _ (fun _=>by simp only [List.length_cons,List.length_nil];omega)]
     exact h1 k hk j x hj
 . rw [put_other _ _ _ _ d]
   refine World.rangeAt_setCells_apart (h1 k hk) b _ [v] (Or.inr ?_)
   simp only [enc_len,List.length_cons,List.length_nil]
   omega
theorem store_pat {P:Program} {ops:Array Oper} {rest:List Oper} {ty t:TypeId} {x y:Operand} {pos:String} {af:Array Edge} {a:Act} {w:World} {Q:Exit->Act->World->Prop} (b o:Nat) (cells:Array Value) (hx:a.eval x=.pointer (some ⟨b,o,none⟩)) (hy:a.eval y=.agg cells)
 (ht:w.there b o cells.size) (hi:(P.info? ty).map (·.size)=some cells.size) (h1:cells.all (·.oneCell')=true)
 (h:wpList P ops Q rest a (w.setCells b o cells.toList)):wpList P ops Q ({ dst:=none,op:=.store ty x y,type:=t,pos:=pos,after:=af,guard:=none }::rest) a w :=
 wpList_store_mid rfl ty x y rfl b o cells hx hy ht hi h1 h
theorem load_pat {P:Program} {ops:Array Oper} {rest:List Oper} {ty t:TypeId} {x:Operand} {q:Tmp} {pos:String} {af:Array Edge} {a:Act} {w:World} {Q:Exit->Act->World->Prop} (b o:Nat) (cs:List Value) (d:TypeDesc) (hx:a.eval x=.pointer (some ⟨b,o,none⟩)) (hc:w.rangeAt b o cs)
 (hu:P.underlying ty=some d) (hd:d.isRow=true) (hi:(P.info? ty).map (·.size)=some cs.length)
 (h:wpList P ops Q rest (a.put (some q) (.agg cs.toArray)) w):wpList P ops Q ({ dst:=some q,op:=.load ty x,type:=t,pos:=pos,after:=af,guard:=none }::rest) a w :=
 wpList_load_mid rfl ty x rfl b o hx cs d hc hu hd hi h
theorem own1 (w:World) (o:Obj):(w.alloc o).heap[w.heap.size]? =some o:=(MapKept.heap_alloc w o).1
theorem there_block {w:World} {b:Nat} {C:Array Value} {t:TypeId} (h:w.heap[b]? =some (.cells C t (0,0))):w.there b 0 C.size:=fun j hj=>by
 rw [Nat.zero_add]
 exact ⟨by rw [Go.Joins.cell_of_block h j,Array.getElem?_eq_getElem hj];rfl,Go.Joins.unfrozen_of_block h j⟩
theorem cell_grown {w w':World} {b k i:Nat} {v:Value} (hg:w.grownBy w' (some b)) (l:k<w.heap.size) (ne:k≠b) (h:w.cell? ⟨k,i,none⟩=some v):w'.cell? ⟨k,i,none⟩=some v :=
 (World.cell?_of_block (w:=w) (a:=⟨k,i,none⟩) (hg.block k l (fun e=>ne (sia e)))).trans h
theorem grown_alloc (w:World) (o:Obj) (r:Option Nat):w.grownBy (w.alloc o) r:=grown_of_below (Go.Joins.below_alloc1 w o) r
theorem grant_info:(Tryz.prog.info? 55).map (·.size)=some 6:=kc
theorem below_drew {n:Nat} {w W:World} (h:Below n w W):Below n w W.drew:=⟨h.os,h.tape,h.output,h.size,h.block⟩
theorem IsTab.unfrozen (h:IsTab E w b T) (o:Nat) (ho:2<=o/\o<1538):w.frozen? ⟨b,o,none⟩=false:=by
 have:=(h.2.1 (o-2) (by omega)).2
 rwa [show 2+(o-2)=o by omega] at this
theorem IsTab.drew (h:IsTab E w b T):IsTab E w.drew b T:=h
theorem grown_drew {w W:World} {r:Option Nat} (h:w.grownBy W r):w.grownBy W.drew r:=⟨h.os,h.tape,h.output,h.size,h.block⟩
theorem grown_new {w W:World} {r:Option Nat} (h:w.grownBy W r) (o:Obj):w.grownBy (W.alloc o) r:=grown_trans h (grown_alloc _ _ _)
def getG (T:Nat->Gr) (i:Int):Gr:=if 0<=i/\i<256 then T i.toNat else Gr.zero
theorem is_in {T:Nat->Gr} {i:Int} (h:(getG T i).is=true): ∃ k:Nat,i=k/\k<256/\getG T i=T k:=by
 unfold getG at h |-
 by_cases c:0<=i/\i<256
 . exact ⟨i.toNat,by omega,by omega,by rw [if_pos c]⟩
 . rw [if_neg c] at h;exact absurd h kh
def flatT (T:Nat->Gr):Nat->List Value
 | 0 => []
 | n + 1 => flatT T n ++ (T n).enc
theorem flat_len (T:Nat->Gr): ∀ n,(flatT T n).length=n*6
 | 0 => rfl
 | n + 1 => by rw [flatT, List.length_append, flat_len T n, enc_len]; omega
theorem flat_get (T:Nat->Gr): ∀ n q r,q<n->r<6->(flatT T n)[q*6+r]? =(T q).enc[r]?
 | 0, q, r, h, _ => absurd h (Nat.not_lt_zero _)
 | n + 1, q, r, h, hr => by
  rw [flatT]
  by_cases c:q=n
  . subst c
    rw [List.getElem?_append_right (by rw [flat_len];omega),flat_len]
    congr 1
    omega
  . rw [List.getElem?_append_left (by rw [flat_len];omega)]
    exact flat_get T n q r (by omega) hr
theorem flat_part (T:Nat->Gr): ∀ n q,q<n->((flatT T n).drop (q*6)).take 6=(T q).enc
 | 0, q, h => absurd h (Nat.not_lt_zero _)
 | n + 1, q, h => by
  rw [flatT]
  by_cases c:q=n
  . subst c
    rw [List.drop_append,List.drop_of_length_le (by rw [flat_len];omega),List.nil_append,flat_len,Nat.sub_self,List.drop_zero,List.take_of_length_le (by rw [enc_len];omega)]
  . rw [List.drop_append_of_le_length (by rw [flat_len];omega),List.take_append_of_le_length (by rw [List.length_drop,flat_len];omega)]
    exact flat_part T n q (by omega)
def zT:Nat->Gr:=fun _=>Gr.zero
theorem flat_range (h:IsTab E w b T):w.rangeAt b 2 (flatT T 256):=by
 intro j v hv
 have hj:j<1536:=by have:=(List.getElem?_eq_some_iff.1 hv).1;rwa [flat_len] at this
 have hd:j=j / 6*6+j % 6:=by omega
 have:=h.1 (j / 6) (by omega) (j % 6) v
 rw [show 2+j / 6*6+j % 6=2+j by omega] at this
 refine this ?_
 rw [<- hv,<- flat_get T 256 (j / 6) (j % 6) (by omega) (by omega),<- hd]
theorem all_info:(Tryz.prog.info? 56).map (·.size)=some 1536:=kc
theorem info6: ∃ i,Tryz.prog.info? 55=some i:=by
 have:=grant_info
 cases h:Tryz.prog.info? 55 with
 | none => rw [h] at this; cases this
 | some i => exact ⟨i, rfl⟩
theorem cells6:Tryz.prog.cellsOf 55=6:=kc
theorem ixk (T:Nat->Gr) (k:Nat) (hk:k<256) (W:World):(Instr.index 56 (.agg (flatT T 256).toArray) (.int .i64 k)).run Tryz.prog W=.ok (T k).val W:=by
 obtain ⟨i,hi⟩:=info6
 have h1:(sizeOf 55).run Tryz.prog W=.ok 6 W:=by rw [run_sizeOf W hi,cells6]
 have h2:(underlying 56).run Tryz.prog W=.ok (.array 256 55) W:=run_underlying Tryz.underlying56 W
 have h3:(isAgg 55).run Tryz.prog W=.ok true W:=kc
 have h4:(0:Int)<=(k:Int)/\(k:Int)<((256:Nat):Int):=by omega
 unfold Instr.index part
 simp only [asIntOf,Sem.run_bind,Sem.run_pure,Result.andThen_ok,h2,h1,h3,h4,and_self,if_true,Int.toNat_natCast]
 congr 1
 simp only [Value.agg.injEq]
 have:=flat_part T 256 k hk
 rw [List.extract_toArray,List.extract_eq_take_drop]
 rw [show k*6+6-k*6=6 by omega,this]
 rfl
end
end Go.Proofs.YtokpmclmdobgeaaGreat.Sh
namespace Go.Proofs.YtokpmclmdobgeaaGreat.Sh
variable {E:Value × Value × Value}
theorem there_any (l:Gr) (w:World):Calls Tryz.prog 76 #[l.val] w fun e w'=>e=.returned (.bool l.is)/\w'=w.alloc (.cells l.enc.toArray 55):=by
 obtain ⟨f,p,d,v,k,a⟩:=l
 unfold Gr.is Gr.enc
 simp only
 go_enter Tryz.func76,Tryz.ntmps76
 go_wp2
 go_returns
 exact ⟨rfl,rfl⟩
def isProc (p:Int):Bool:=decide (0<=p) && decide (p<16)
def isPage (p:Int):Bool:=decide (0<=p) && decide (p<34359738368)
theorem process_any (p:Int) (w:World):Calls Tryz.prog 74 #[.int .i64 p] w fun e w'=>e=.returned (.bool (isProc p))/\w'=w:=by
 unfold isProc
 by_cases c:0<=p
 . have e1:decide (0<=p)=true:=by simp [c]
   go_enter Tryz.func74,Tryz.ntmps74
   go_wp2
   go_returns
   exact ⟨by simp [c],rfl⟩
 . have e1:decide (0<=p)=false:=by simp [c]
   go_enter Tryz.func74,Tryz.ntmps74
   go_wp2
   go_returns
   exact ⟨by simp [c],rfl⟩
theorem ownPage_any (p:Int) (w:World):Calls Tryz.prog 75 #[.int .i64 p] w fun e w'=>e=.returned (.bool (isPage p))/\w'=w:=by
 unfold isPage
 by_cases c:0<=p
 . have e1:decide (0<=p)=true:=by simp [c]
   go_enter Tryz.func75,Tryz.ntmps75
   go_wp2
   go_returns
   exact ⟨by simp [c],rfl⟩
 . have e1:decide (0<=p)=false:=by simp [c]
   go_enter Tryz.func75,Tryz.ntmps75
   go_wp2
   go_returns
   exact ⟨by simp [c],rfl⟩
theorem get_out (b:Nat) (i:Int) (hi:i<0\/256<=i) (w:World) :
 Calls Tryz.prog 84 #[.pointer (some ⟨b,2,none⟩),.int .i64 i] w (re (.tuple #[Gr.zero.val,.bool false]) w):=by
 rcases hi with hi | hi
 . have e1:decide (i<0)=true:=by simp [hi]
   go_enter Tryz.func84,Tryz.ntmps84
   go_wp2_with fail
   go_returns
   exact ⟨rfl,baa⟩
 . have e1:decide (i<0)=false:=by simp;omega
   have e2:decide (256<=i)=true:=by simp [hi]
   go_enter Tryz.func84,Tryz.ntmps84
   go_wp2_with fail
   go_returns
   exact ⟨rfl,baa⟩
theorem get_in (b:Nat) (T:Nat->Gr) (k:Nat) (hk:k<256) (w:World) (h:IsTab E w b T) :
 Calls Tryz.prog 84 #[.pointer (some ⟨b,2,none⟩),.int .i64 k] w (re (.tuple #[(T k).val,.bool (T k).is]) w):=by
 have e1:decide ((k:Int)<0)=false:=by simp
 have e2:decide (256<=(k:Int))=false:=kg
 have k0:(0:Int)<=(k:Int):=by omega
 have k6:(k:Int)<256:=by omega
 obtain ⟨l,hl⟩: ∃ l,T k=l:=⟨_,rfl⟩
 have c0:w.cell? ⟨b,2+k*6,none⟩=some (.int .i64 l.fr):=h.cell (k) (by omega) 0 _ ke _ (by omega)
 have c1:w.cell? ⟨b,2+k*6+1,none⟩=some (.int .i64 l.pg):=h.cell (k) (by omega) 1 _ ke _ (by omega)
 have c2:w.cell? ⟨b,2+k*6+2,none⟩=some (.int .i64 l.dst):=h.cell (k) (by omega) 2 _ ke _ (by omega)
 have c3:w.cell? ⟨b,2+k*6+3,none⟩=some (.bool l.wr):=h.cell (k) (by omega) 3 _ ke _ (by omega)
 have c4:w.cell? ⟨b,2+k*6+4,none⟩=some (.bool l.tk):=h.cell (k) (by omega) 4 _ ke _ (by omega)
 have c5:w.cell? ⟨b,2+k*6+5,none⟩=some (.int .i64 l.att):=h.cell (k) (by omega) 5 _ ke _ (by omega)
 have hb:=h.2.2.1
 rw [hl]
 have TH:Hid (∀ W:World,Calls Tryz.prog 76 #[l.val] W fun e w'=>e=.returned (.bool l.is)/\w'=W.alloc (.cells l.enc.toArray 55)):=fun W=>there_any l W
 clear h hl
 obtain ⟨f,p,d,v,q,a⟩:=l
 simp only [Gr.enc] at TH
 generalize Gr.is ⟨f,p,d,v,q,a⟩=iz at TH |-
 simp only at c0 c1 c2 c3 c4 c5
 go_enter Tryz.func84,Tryz.ntmps84
 go_wp2_with fail
 go_region_with (refine (TH.out _).mono ?_;rintro e u1 ⟨rfl,rfl⟩)
 all_goals (go_wp2_with fail;go_returns;exact ⟨rfl,below_drew (below_new (below_new baa _) _)⟩)
theorem get_any (b:Nat) (T:Nat->Gr) (i:Int) (w:World) (h:IsTab E w b T) :
 Calls Tryz.prog 84 #[.pointer (some ⟨b,2,none⟩),.int .i64 i] w (re (.tuple #[(getG T i).val,.bool (getG T i).is]) w):=by
 unfold getG
 by_cases c:0<=i/\i<256
 . obtain ⟨k,rfl⟩: ∃ k:Nat,i=k:=⟨i.toNat,by omega⟩
   simp only [if_pos c,Int.toNat_natCast]
   exact get_in b T k (by omega) w h
 . simp only [if_neg c]
   exact get_out b i (by omega) w
end Go.Proofs.YtokpmclmdobgeaaGreat.Sh
namespace Go.Proofs.YtokpmclmdobgeaaGreat.Sh
variable {E:Value × Value × Value}
set_option maxRecDepth 8000
def freeF (T:Nat->Gr):Nat->Nat->Nat
 | m, 0 => m
 | m, n + 1 => if (T m).is then freeF T (m + 1) n else m
theorem free_le (T:Nat->Gr): ∀ n m,m<=freeF T m n/\freeF T m n<=m+n
 | 0, m => ⟨Nat.le_refl _, Nat.le_refl _⟩
 | n + 1, m => by
  rw [freeF]
  by_cases c:(T m).is=true
  . rw [if_pos c];have:=free_le T n (m+1);omega
  . rw [if_neg c];omega
theorem free_all (T:Nat->Gr): ∀ n m i,m<=i->i<freeF T m n->(T i).is=true
 | 0, m, i, h1, h2 => by rw [freeF] at h2; omega
 | n + 1, m, i, h1, h2 => by
  rw [freeF] at h2
  by_cases c:(T m).is=true
  . rw [if_pos c] at h2
    by_cases e:i=m
    . rw [e];exact c
    . exact free_all T n (m+1) i (by omega) h2
  . rw [if_neg c] at h2;omega
theorem free_no (T:Nat->Gr): ∀ n m,freeF T m n<m+n->(T (freeF T m n)).is=false
 | 0, m, h => by rw [freeF] at h; omega
 | n + 1, m, h => by
  rw [freeF] at h |-
  by_cases c:(T m).is=true
  . rw [if_pos c] at h |-;exact free_no T n (m+1) (by omega)
  . rw [if_neg c];simpa using c
theorem free_uniq (T:Nat->Gr) (m n r:Nat) (h1:m<=r) (h2:r<=m+n) (ha: ∀ i,m<=i->i<r->(T i).is=true) (hn:r<m+n->(T r).is=false):freeF T m n=r:=by
 have a:=free_le T n m
 rcases Nat.lt_trichotomy (freeF T m n) r with c | c | c
 . have:=ha _ a.1 c
   rw [free_no T n m (by omega)] at this
   cases this
 . exact c
 . have:=free_all T n m r h1 c
   rw [hn (by omega)] at this
   cases this
def offB (f p d:Int):Bool:= !(isProc f) || !(isProc d) || f==d || !(isPage p)
def offE (T:Nat->Gr) (f p d:Int):Int:=if offB f p d then 1 else if freeF T (f.toNat*16) 16<f.toNat*16+16 then 0 else 4
def offI (T:Nat->Gr) (f p d:Int):Int:=if offE T f p d=0 then (freeF T (f.toNat*16) 16:Nat) else 0
def offT (T:Nat->Gr) (f p d:Int) (x:Bool):Nat->Gr:=if offE T f p d=0 then putT T (freeF T (f.toNat*16) 16) ⟨f,p,d,x,false,0⟩ else T
theorem proc_in {p:Int} (h:isProc p=true): ∃ k:Nat,p=k/\k<16:=by
 unfold isProc at h
 simp at h
 exact ⟨p.toNat,by omega,by omega⟩
theorem offer_bad (b:Nat) (T:Nat->Gr) (f p d:Int) (x:Bool) (hB:offB f p d=true) (w:World) (h:IsTab E w b T) :
 Calls Tryz.prog 59 #[.pointer (some ⟨b,2,none⟩),.int .i64 f,.int .i64 p,.int .i64 d,.bool x] w (re (.tuple #[.int .i64 0,.int .i64 1]) w):=by
 have PF:Hid (∀ W:World,Calls Tryz.prog 74 #[.int .i64 f] W fun e w'=>e=.returned (.bool (isProc f))/\w'=W):=fun W=>process_any f W
 have PD:Hid (∀ W:World,Calls Tryz.prog 74 #[.int .i64 d] W fun e w'=>e=.returned (.bool (isProc d))/\w'=W):=fun W=>process_any d W
 have PP:Hid (∀ W:World,Calls Tryz.prog 75 #[.int .i64 p] W fun e w'=>e=.returned (.bool (isPage p))/\w'=W):=fun W=>ownPage_any p W
 clear h
 unfold offB at hB
 generalize isProc f=z1 at PF hB
 generalize isProc d=z2 at PD hB
 generalize isPage p=z3 at PP hB
 cases z1
 . clear hB
   go_enter Tryz.func59,Tryz.ntmps59
   go_wp2_with fail
   refine (PF.out _).mono ?_
   rintro e u1 ⟨rfl,hu⟩
   replace hu:=hu.symm
   subst hu
   go_wp2_with fail
   go_returns
   exact ⟨rfl,Below.refl _ _⟩
 cases z2
 . clear hB
   go_enter Tryz.func59,Tryz.ntmps59
   go_wp2_with fail
   refine (PF.out _).mono ?_
   rintro e u1 ⟨rfl,hu⟩
   replace hu:=hu.symm
   subst hu
   go_wp2_with fail
   refine (PD.out _).mono ?_
   rintro e u1 ⟨rfl,hu⟩
   replace hu:=hu.symm
   subst hu
   go_wp2_with fail
   go_returns
   exact ⟨rfl,Below.refl _ _⟩
 by_cases c:f=d
 . have cb:(f==d)=true:=by simp [c]
   clear hB c
   go_enter Tryz.func59,Tryz.ntmps59
   go_wp2_with fail
   refine (PF.out _).mono ?_
   rintro e u1 ⟨rfl,hu⟩
   replace hu:=hu.symm
   subst hu
   go_wp2_with fail
   refine (PD.out _).mono ?_
   rintro e u1 ⟨rfl,hu⟩
   replace hu:=hu.symm
   subst hu
   go_wp2_with fail
   go_returns
   exact ⟨rfl,Below.refl _ _⟩
 . have cb:(f==d)=false:=by simp [c]
   rw [cb] at hB
   cases z3
   . clear hB c
     go_enter Tryz.func59,Tryz.ntmps59
     go_wp2_with fail
     refine (PF.out _).mono ?_
     rintro e u1 ⟨rfl,hu⟩
     replace hu:=hu.symm
     subst hu
     go_wp2_with fail
     refine (PD.out _).mono ?_
     rintro e u1 ⟨rfl,hu⟩
     replace hu:=hu.symm
     subst hu
     go_wp2_with fail
     refine (PP.out _).mono ?_
     rintro e u1 ⟨rfl,hu⟩
     replace hu:=hu.symm
     subst hu
     go_wp2_with fail
     go_returns
     exact ⟨rfl,Below.refl _ _⟩
   . simp at hB
theorem offer_in (b:Nat) (T:Nat->Gr) (f p d:Int) (x:Bool) (hB:offB f p d=false) (w:World) (h:IsTab E w b T) :
 Calls Tryz.prog 59 #[.pointer (some ⟨b,2,none⟩),.int .i64 f,.int .i64 p,.int .i64 d,.bool x] w fun e w'=>e=.returned (.tuple #[.int .i64 (offI T f p d),.int .i64 (offE T f p d)])/\IsTab E w' b (offT T f p d x)/\w.grownBy w' (some b):=by
 have PF:Hid (∀ W:World,Calls Tryz.prog 74 #[.int .i64 f] W fun e w'=>e=.returned (.bool (isProc f))/\w'=W):=fun W=>process_any f W
 have PD:Hid (∀ W:World,Calls Tryz.prog 74 #[.int .i64 d] W fun e w'=>e=.returned (.bool (isProc d))/\w'=W):=fun W=>process_any d W
 have PP:Hid (∀ W:World,Calls Tryz.prog 75 #[.int .i64 p] W fun e w'=>e=.returned (.bool (isPage p))/\w'=W):=fun W=>ownPage_any p W
 have hB':=hB
 unfold offB at hB
 have z1:isProc f=true:=by cases c:isProc f <;> simp [c] at hB |-
 have z2:isProc d=true:=by cases c:isProc d <;> simp [c] at hB |-
 have z3:isPage p=true:=by cases c:isPage p <;> simp [c] at hB |-
 have cb:(f==d)=false:=by cases c:(f==d) <;> simp [c] at hB |-
 rw [z1] at PF
 rw [z2] at PD
 rw [z3] at PP
 obtain ⟨F,rfl,hF⟩:=proc_in z1
 have eE:offE T F p d=if freeF T (F*16) 16<F*16+16 then 0 else 4:=by unfold offE;rw [hB',Int.toNat_natCast];rfl
 have eI:offI T F p d=if freeF T (F*16) 16<F*16+16 then (freeF T (F*16) 16:Nat) else 0:=by
  unfold offI;rw [eE,Int.toNat_natCast];by_cases c:freeF T (F*16) 16<F*16+16 <;> simp [c]
 have eT:offT T F p d x=if freeF T (F*16) 16<F*16+16 then putT T (freeF T (F*16) 16) ⟨F,p,d,x,false,0⟩ else T:=by
  unfold offT;rw [eE,Int.toNat_natCast];by_cases c:freeF T (F*16) 16<F*16+16 <;> simp [c]
 have K1: ∀ m,F*16<=m->m<F*16+16->(∀ i,F*16<=i->i<m->(T i).is=true)->(T m).is=false->offI T F p d=m/\offE T F p d=0/\offT T F p d x=putT T m ⟨F,p,d,x,false,0⟩:=fun m h1 h2 ha hn=>by
  have e:freeF T (F*16) 16=m:=free_uniq T _ _ m h1 (by omega) ha (fun _=>hn)
  rw [eE,eI,eT,e,if_pos h2,if_pos h2,if_pos h2]
  exact ⟨rfl,rfl,rfl⟩
 have K2:(∀ i,F*16<=i->i<F*16+16->(T i).is=true)->offI T F p d=0/\offE T F p d=4/\offT T F p d x=T:=fun ha=>by
  have e:freeF T (F*16) 16=F*16+16:=free_uniq T _ _ _ (by omega) (by omega) ha (fun h=>by omega)
  rw [eE,eI,eT,e,if_neg (by omega),if_neg (by omega),if_neg (by omega)]
  exact ⟨rfl,rfl,rfl⟩
 clear eE eI eT
 generalize offI T F p d=RI at K1 K2 |-
 generalize offE T F p d=RE at K1 K2 |-
 generalize offT T F p d x=RT at K1 K2 |-
 have HK1:Hid _:=K1
 have HK2:Hid _:=K2
 clear K1 K2
 have HT:Hid (IsTab E w b T):=h
 have hb:=h.2.2.1
 have TH:Hid (∀ (l:Gr) (W:World),Calls Tryz.prog 76 #[l.val] W fun e w'=>e=.returned (.bool l.is)/\w'=W.alloc (.cells l.enc.toArray 55)):=there_any
 clear h hB hB' z1 z2 z3
 have m1:decide ((0:Int)<=F)=true:=by simp
 go_enter Tryz.func59,Tryz.ntmps59
 go_wp2_with fail
 refine (PF.out _).mono ?_
 rintro e u1 ⟨rfl,hu⟩
 replace hu:=hu.symm
 subst hu
 go_wp2_with fail
 refine (PD.out _).mono ?_
 rintro e u1 ⟨rfl,hu⟩
 replace hu:=hu.symm
 subst hu
 go_wp2_with fail
 refine (PP.out _).mono ?_
 rintro e u1 ⟨rfl,hu⟩
 replace hu:=hu.symm
 subst hu
 go_wp2_with fail
 clear PF PD PP
 go_loopw [13] (fun v W=> ∃ m:Nat,F*16<=m/\m<=F*16+16/\v=.int .i64 m/\Hid (∀ i,F*16<=i->i<m->(T i).is=true)/\Hid (bc w W)) (fun v _=>F*16+16-(intOf v).toNat)
 case atStart=>exact ⟨F*16,by omega,by omega,by first | go_num | (simp;done),fun i h1 h2=>by omega,Below.refl _ _⟩
 case round =>
  obtain ⟨m,hm1,hm2,rfl,HI,B⟩:=hrel
  by_cases hlt:m<F*16+16
  . have hd:decide ((m:Int)<(F:Int)*16+16)=true:=by simp;omega
    have hm6:m<256:=by omega
    have k0:(0:Int)<=(m:Int):=by omega
    have k6:(m:Int)<256:=by omega
    have TX:Hid (IsTab E wr b T):=HT.out.below B.out
    have hb':b<wr.heap.size:=nla hb B.out.size
    obtain ⟨l,hl⟩: ∃ l,T m=l:=⟨_,rfl⟩
    have c0:wr.cell? ⟨b,2+m*6,none⟩=some (.int .i64 l.fr):=TX.out.cell (m) (by omega) 0 _ ke _ (by omega)
    have c1:wr.cell? ⟨b,2+m*6+1,none⟩=some (.int .i64 l.pg):=TX.out.cell (m) (by omega) 1 _ ke _ (by omega)
    have c2:wr.cell? ⟨b,2+m*6+2,none⟩=some (.int .i64 l.dst):=TX.out.cell (m) (by omega) 2 _ ke _ (by omega)
    have c3:wr.cell? ⟨b,2+m*6+3,none⟩=some (.bool l.wr):=TX.out.cell (m) (by omega) 3 _ ke _ (by omega)
    have c4:wr.cell? ⟨b,2+m*6+4,none⟩=some (.bool l.tk):=TX.out.cell (m) (by omega) 4 _ ke _ (by omega)
    have c5:wr.cell? ⟨b,2+m*6+5,none⟩=some (.int .i64 l.att):=TX.out.cell (m) (by omega) 5 _ ke _ (by omega)
    have tl:=TH.out l
    have HL:Hid (T m=l):=hl
    clear hl TH
    obtain ⟨lf,lp,ld,lw,lt,la⟩:=l
    simp only at c0 c1 c2 c3 c4 c5
    cases hz:Gr.is ⟨lf,lp,ld,lw,lt,la⟩
    . rw [hz] at tl
      have TL:Hid _:=tl
      have HZ:Hid (Gr.is ⟨lf,lp,ld,lw,lt,la⟩=false):=hz
      clear tl hz
      go_wp2_with fail
      refine (TL.out _).mono ?_
      rintro e u1 ⟨rfl,hu⟩
      have T1:Hid (IsTab E u1 b T):=by rw [hu];exact TX.out.below baa
      have B1:Hid (bc w u1):=by rw [hu];exact below_new B.out _
      have hb1:b<u1.heap.size:=nla hb B1.out.size
      clear hu TX c0 c1 c2 c3 c4 c5 hb' TL
      go_wp2_with (refine store_pat b (2+m*6) (sb1 F p d x false 0) ?hx ?hy ?ht ?hi ?h1 ?rest;(case hx=>rfl);(case hy=>rfl);(case ht=>exact T1.out.free _ _ kg);(case hi=>exact grant_info);(case h1=>simp [Value.oneCell']);have T2:Hid (IsTab E (u1.setCells b (2+m*6) (sa1 F p d x false 0)) b (putT T m ⟨F,p,d,x,false,0⟩)):=(T1.out.put m hm6 ⟨F,p,d,x,false,0⟩);have G2:Hid (w.grownBy (u1.setCells b (2+m*6) (sa1 F p d x false 0)) (some b)):=(grown_trans (grown_of_below B1.out _) (grown_setCells _ _ _ _));simp only [List.toList_toArray];generalize u1.setCells b (2+m*6) (sa1 F p d x false 0)=X at T2 G2 |-;clear T1 B1 hb1)
      go_returns
      obtain ⟨rfl,rfl,rfl⟩:=HK1.out m hm1 hlt HI.out (by rw [HL.out];exact HZ.out)
      exact ⟨rfl,T2.out,G2.out⟩
    . rw [hz] at tl
      have TL:Hid _:=tl
      have HZ:Hid (Gr.is ⟨lf,lp,ld,lw,lt,la⟩=true):=hz
      clear tl hz
      go_wp2_with fail
      refine (TL.out _).mono ?_
      rintro e u1 ⟨rfl,hu⟩
      have B1:Hid (bc w u1):=by rw [hu];exact below_new B.out _
      clear hu TX c0 c1 c2 c3 c4 c5 hb' TL
      go_wp2_with fail
      go_roundw
      case rel=>exact ⟨m+1,by omega,by omega,by go_num,(fun i h1 h2=>by
       by_cases c:i=m
       . rw [c,HL.out];exact HZ.out
       . exact HI.out i h1 (by omega)),B1⟩
      case measure=>simp [intOf];omega
  . obtain rfl:m=F*16+16:=by omega
    have hd:decide (((F*16+16:Nat):Int)<(F:Int)*16+16)=false:=by simp
    go_wp2_with fail
    go_returns
    obtain ⟨rfl,rfl,rfl⟩:=HK2.out HI.out
    exact ⟨rfl,HT.out.below B.out,grown_of_below B.out _⟩
theorem offer_any (b:Nat) (T:Nat->Gr) (f p d:Int) (x:Bool) (w:World) (h:IsTab E w b T) :
 Calls Tryz.prog 59 #[.pointer (some ⟨b,2,none⟩),.int .i64 f,.int .i64 p,.int .i64 d,.bool x] w fun e w'=>e=.returned (.tuple #[.int .i64 (offI T f p d),.int .i64 (offE T f p d)])/\IsTab E w' b (offT T f p d x)/\w.grownBy w' (some b):=by
 by_cases c:offB f p d=true
 . have e1:offE T f p d=1:=by unfold offE;rw [if_pos c]
   have e2:offI T f p d=0:=by unfold offI;rw [e1];rfl
   have e3:offT T f p d x=T:=by unfold offT;rw [e1];rfl
   rw [e1,e2,e3]
   exact (offer_bad b T f p d x c w h).mono fun e w' ⟨h1,h2⟩=>⟨h1,h.below h2,grown_of_below h2 _⟩
 . exact offer_in b T f p d x (by simpa using c) w h
end Go.Proofs.YtokpmclmdobgeaaGreat.Sh
namespace Go.Proofs.YtokpmclmdobgeaaGreat.Sh
variable {E:Value × Value × Value}
set_option maxRecDepth 8000
set_option maxRecDepth 8000
theorem range_at {w:World} {b:Nat} {cs:List Value} {v:Value} (h:w.rangeAt b 0 cs) (i:Nat) (hi:cs[i]? =some v):w.cell? ⟨b,i,none⟩=some v:=by have:=h i v hi;rwa [Nat.zero_add] at this
theorem there_below {w W:World} {b o n:Nat} (h:w.there b o n) (hb:b<w.heap.size) (hB:bc w W):W.there b o n:=fun j hj=>by
 rw [hB.cell (p:=⟨b,o+j,none⟩) hb,hB.frozen (p:=⟨b,o+j,none⟩) hb];exact h j hj
theorem range_below {w W:World} {b o:Nat} {cs:List Value} (h:w.rangeAt b o cs) (hb:b<w.heap.size) (hB:bc w W):W.rangeAt b o cs:=fun j v hj=>by
 rw [hB.cell (p:=⟨b,o+j,none⟩) hb];exact h j v hj
theorem there_grown {w W:World} {b o n c:Nat} (h:w.there b o n) (hb:b<w.heap.size) (hne:b≠c) (hB:w.grownBy W (some c)):W.there b o n:=fun j hj=>by
 have e:=hB.block b hb (fun e=>hne (sia e))
 have e1:W.cell? ⟨b,o+j,none⟩=w.cell? ⟨b,o+j,none⟩:=World.cell?_of_block (w:=w) (a:=⟨b,o+j,none⟩) e
 have e2:W.frozen? ⟨b,o+j,none⟩=w.frozen? ⟨b,o+j,none⟩:=World.frozen?_of_block (w:=w) (a:=⟨b,o+j,none⟩) e
 rw [e1,e2];exact h j hj
theorem range_grown {w W:World} {b o c:Nat} {cs:List Value} (h:w.rangeAt b o cs) (hb:b<w.heap.size) (hne:b≠c) (hB:w.grownBy W (some c)):W.rangeAt b o cs:=fun j v hj=>by
 have e:=hB.block b hb (fun e=>hne (sia e))
 exact (World.cell?_of_block (w:=w) (a:=⟨b,o+j,none⟩) e).trans (h j v hj)
theorem range_block (w:World) (C:Array Value) (t:TypeId):(w.alloc (.cells C t)).rangeAt w.heap.size 0 C.toList:=fun j v hj=>by
 rw [Nat.zero_add]
 exact (Go.Joins.cell_of_block (own1 w (.cells C t)) j).trans (by simpa using hj)
theorem grown_box {w W X:World} {b:Nat} (h:W.grownBy X (some w.heap.size)) (B:bc w W):w.grownBy X (some b) :=
 ⟨h.os.trans B.os,h.tape.trans B.tape,h.output.trans B.output,Nat.le_trans B.size h.size,fun k hk hne=>(h.block k (nla hk B.size) (fun e=>by have:=sia e;omega)).trans (B.block k hk)⟩
theorem IsTab.same {w w':World} {b:Nat} {T:Nat->Gr} (h:IsTab E w b T) (hs:w.heap.size<=w'.heap.size) (e:w'.heap[b]? =w.heap[b]?):IsTab E w' b T:=by
 obtain ⟨h1,h2,h3,h4,h5⟩:=h
 refine ⟨fun i hi j v hv=> ?_,fun j hj=> ?_,nla h3 hs,fun j v hj=>(World.cell?_of_block (w:=w) (a:=⟨b,0+j,none⟩) e).trans (h4 j v hj),fun j v hj=>(World.cell?_of_block (w:=w) (a:=⟨b,1538+j,none⟩) e).trans (h5 j v hj)⟩
 . exact (World.cell?_of_block (w:=w) (a:=⟨b,2+i*6+j,none⟩) e).trans (h1 i hi j v hv)
 . have e1:w'.cell? ⟨b,2+j,none⟩=w.cell? ⟨b,2+j,none⟩:=World.cell?_of_block (w:=w) (a:=⟨b,2+j,none⟩) e
   have e2:w'.frozen? ⟨b,2+j,none⟩=w.frozen? ⟨b,2+j,none⟩:=World.frozen?_of_block (w:=w) (a:=⟨b,2+j,none⟩) e
   rw [e1,e2];exact h2 j hj
theorem tab_box {w W X:World} {b:Nat} {T:Nat->Gr} (T1:IsTab E W b T) (h:W.grownBy X (some w.heap.size)) (B:bc w W) (hb:b<w.heap.size):IsTab E X b T :=
 T1.same h.size (h.block b T1.2.2.1 (fun e=>by have:=sia e;omega))
theorem tab_box2 {w V X:World} {b:Nat} {T:Nat->Gr} (T1:IsTab E V b T) (h:V.grownBy X (some w.heap.size)) (hb:b<w.heap.size):IsTab E X b T :=
 T1.same h.size (h.block b T1.2.2.1 (fun e=>by have:=sia e;omega))
theorem grown_box2 {w U V X:World} {b:Nat} (B:bc w U) (g:U.grownBy V (some b)) (h:V.grownBy X (some w.heap.size)):w.grownBy X (some b) :=
 ⟨h.os.trans (g.os.trans B.os),h.tape.trans (g.tape.trans B.tape),h.output.trans (g.output.trans B.output),Nat.le_trans B.size (Nat.le_trans g.size h.size),fun k hk hne=>(h.block k (nla hk (Nat.le_trans B.size g.size)) (fun e=>by have:=sia e;omega)).trans ((g.block k (nla hk B.size) hne).trans (B.block k hk))⟩
theorem grown6 (V:World) (B:Nat) (v0 v1 v2 v3 v4 v5:Value):V.grownBy ((((((V.setCell ⟨B,0,none⟩ v0).setCell ⟨B,1,none⟩ v1).setCell ⟨B,2,none⟩ v2).setCell ⟨B,3,none⟩ v3).setCell ⟨B,4,none⟩ v4).setCell ⟨B,5,none⟩ v5) (some B) :=
 grown_trans (grown_trans (grown_trans (grown_trans (grown_trans (grown_setCell1 _ _ _ _) (grown_setCell1 _ _ _ _)) (grown_setCell1 _ _ _ _)) (grown_setCell1 _ _ _ _)) (grown_setCell1 _ _ _ _)) (grown_setCell1 _ _ _ _)
theorem put_put (T:Nat->Gr) (k:Nat) (x y:Gr):putT (putT T k x) k y=putT T k y:=by
 funext j;unfold putT;by_cases c:j=k <;> simp [c]
def accE (T:Nat->Gr) (i o a:Int):Int:=if (getG T i).is=false\/(getG T i).dst≠o then 5 else if (getG T i).tk=true then 11 else if isPage a=false then 1 else 0
def Gr.take (g:Gr) (a:Int):Gr:=⟨g.fr,g.pg,g.dst,g.wr,true,a⟩
def Gr.leave (g:Gr):Gr:=⟨g.fr,g.pg,g.dst,g.wr,false,0⟩
def accT (T:Nat->Gr) (i o a:Int):Nat->Gr:=if accE T i o a=0 then putT T i.toNat ((T i.toNat).take a) else T
def leaE (T:Nat->Gr) (i o:Int):Int:=if (getG T i).is=false\/(getG T i).dst≠o\/(getG T i).tk=false then 5 else 0
def leaG (T:Nat->Gr) (i o:Int):Gr:=if leaE T i o=0 then getG T i else Gr.zero
def leaT (T:Nat->Gr) (i o:Int):Nat->Gr:=if leaE T i o=0 then putT T i.toNat ((T i.toNat).leave) else T
def revE (T:Nat->Gr) (i o:Int):Int:=if (getG T i).is=false\/(getG T i).fr≠o then 5 else 0
def revG (T:Nat->Gr) (i o:Int):Gr:=if revE T i o=0 then getG T i else Gr.zero
def revT (T:Nat->Gr) (i o:Int):Nat->Gr:=if revE T i o=0 then putT T i.toNat Gr.zero else T
theorem acc_tab {U:World} {b n k:Nat} {T:Nat->Gr} {lf lp ld la a:Int} {lw:Bool} (h:IsTab E U b T) (hk:k<256) (hl:T k=⟨lf,lp,ld,lw,false,la⟩) (hn:b<n):IsTab E ((((((((U.setCell ⟨n,4,none⟩ (.bool true)).setCell ⟨n,5,none⟩ (.int .i64 a)).setCell ⟨b,2+k*6,none⟩ (.int .i64 lf)).setCell ⟨b,2+k*6+1,none⟩ (.int .i64 lp)).setCell ⟨b,2+k*6+2,none⟩ (.int .i64 ld)).setCell ⟨b,2+k*6+3,none⟩ (.bool lw)).setCell ⟨b,2+k*6+4,none⟩ (.bool true)).setCell ⟨b,2+k*6+5,none⟩ (.int .i64 a)).drew b (putT T k (Gr.take ⟨lf,lp,ld,lw,false,la⟩ a)):=by
 have g1:U.grownBy ((U.setCell ⟨n,4,none⟩ (.bool true)).setCell ⟨n,5,none⟩ (.int .i64 a)) (some n):=grown_trans (grown_setCell1 _ _ _ _) (grown_setCell1 _ _ _ _)
 have h1:=h.same g1.size (g1.block b h.2.2.1 (fun e=>by have:=sia e;omega))
 have h2:=h1.put k hk (Gr.take ⟨lf,lp,ld,lw,false,la⟩ a)
 simp only [World.setCells,Gr.take,Gr.enc] at h2
 exact IsTab.drew h2
theorem acc_grown {w U:World} {b n k:Nat} {lf lp ld a:Int} {lw:Bool} (h:w.grownBy U (some b)) (hn:b<n) (hw:w.heap.size<=n):w.grownBy ((((((((U.setCell ⟨n,4,none⟩ (.bool true)).setCell ⟨n,5,none⟩ (.int .i64 a)).setCell ⟨b,2+k*6,none⟩ (.int .i64 lf)).setCell ⟨b,2+k*6+1,none⟩ (.int .i64 lp)).setCell ⟨b,2+k*6+2,none⟩ (.int .i64 ld)).setCell ⟨b,2+k*6+3,none⟩ (.bool lw)).setCell ⟨b,2+k*6+4,none⟩ (.bool true)).setCell ⟨b,2+k*6+5,none⟩ (.int .i64 a)).drew (some b):=by
 have g1:U.grownBy ((U.setCell ⟨n,4,none⟩ (.bool true)).setCell ⟨n,5,none⟩ (.int .i64 a)) (some n):=grown_trans (grown_setCell1 _ _ _ _) (grown_setCell1 _ _ _ _)
 have g2:w.grownBy ((U.setCell ⟨n,4,none⟩ (.bool true)).setCell ⟨n,5,none⟩ (.int .i64 a)) (some b):=⟨g1.os.trans h.os,g1.tape.trans h.tape,g1.output.trans h.output,Nat.le_trans h.size g1.size,fun j hj hne=>(g1.block j (nla hj h.size) (fun e=>by have:=sia e;omega)).trans (h.block j hj hne)⟩
 exact grown_drew (grown_trans (grown_trans (grown_trans (grown_trans (grown_trans (grown_trans g2 (grown_setCell1 _ _ _ _)) (grown_setCell1 _ _ _ _)) (grown_setCell1 _ _ _ _)) (grown_setCell1 _ _ _ _)) (grown_setCell1 _ _ _ _)) (grown_setCell1 _ _ _ _))
theorem acc5 {T:Nat->Gr} {i o a:Int} (h:(getG T i).is=false\/(getG T i).dst≠o):accE T i o a=5/\accT T i o a=T:=by
 have e:accE T i o a=5:=by unfold accE;rw [if_pos h]
 exact ⟨e,by unfold accT;rw [e];rfl⟩
theorem acc11 {T:Nat->Gr} {i o a:Int} (h1:(getG T i).is=true) (h2:(getG T i).dst=o) (h3:(getG T i).tk=true):accE T i o a=11/\accT T i o a=T:=by
 have e:accE T i o a=11:=by unfold accE;rw [if_neg (by rw [h1,h2];simp),if_pos h3]
 exact ⟨e,by unfold accT;rw [e];rfl⟩
theorem acc1 {T:Nat->Gr} {i o a:Int} (h1:(getG T i).is=true) (h2:(getG T i).dst=o) (h3:(getG T i).tk=false) (h4:isPage a=false):accE T i o a=1/\accT T i o a=T:=by
 have e:accE T i o a=1:=by unfold accE;rw [if_neg (by rw [h1,h2];simp),if_neg (by rw [h3];simp),if_pos h4]
 exact ⟨e,by unfold accT;rw [e];rfl⟩
theorem acc0 {T:Nat->Gr} {i o a:Int} (h1:(getG T i).is=true) (h2:(getG T i).dst=o) (h3:(getG T i).tk=false) (h4:isPage a=true):accE T i o a=0/\accT T i o a=putT T i.toNat ((T i.toNat).take a):=by
 have e:accE T i o a=0:=by unfold accE;rw [if_neg (by rw [h1,h2];simp),if_neg (by rw [h3];simp),if_neg (by rw [h4];simp)]
 exact ⟨e,by unfold accT;rw [e];rfl⟩
theorem lea5 {T:Nat->Gr} {i o:Int} (h:(getG T i).is=false\/(getG T i).dst≠o\/(getG T i).tk=false):leaE T i o=5/\leaG T i o=Gr.zero/\leaT T i o=T:=by
 have e:leaE T i o=5:=by unfold leaE;rw [if_pos h]
 exact ⟨e,by unfold leaG;rw [e];rfl,by unfold leaT;rw [e];rfl⟩
theorem lea0 {T:Nat->Gr} {i o:Int} (h1:(getG T i).is=true) (h2:(getG T i).dst=o) (h3:(getG T i).tk=true):leaE T i o=0/\leaG T i o=getG T i/\leaT T i o=putT T i.toNat ((T i.toNat).leave):=by
 have e:leaE T i o=0:=by unfold leaE;rw [if_neg (by rw [h1,h2,h3];simp)]
 exact ⟨e,by unfold leaG;rw [e];rfl,by unfold leaT;rw [e];rfl⟩
theorem rev5 {T:Nat->Gr} {i o:Int} (h:(getG T i).is=false\/(getG T i).fr≠o):revE T i o=5/\revG T i o=Gr.zero/\revT T i o=T:=by
 have e:revE T i o=5:=by unfold revE;rw [if_pos h]
 exact ⟨e,by unfold revG;rw [e];rfl,by unfold revT;rw [e];rfl⟩
theorem rev0 {T:Nat->Gr} {i o:Int} (h1:(getG T i).is=true) (h2:(getG T i).fr=o):revE T i o=0/\revG T i o=getG T i/\revT T i o=putT T i.toNat Gr.zero:=by
 have e:revE T i o=0:=by unfold revE;rw [if_neg (by rw [h1,h2];simp)]
 exact ⟨e,by unfold revG;rw [e];rfl,by unfold revT;rw [e];rfl⟩
theorem IsTab.left {w:World} {b:Nat} {T:Nat->Gr} {k:Nat} {l:Gr} (h:IsTab E w b T) (hk:k<256) (hl:T k=l):IsTab E ((w.setCell ⟨b,2+k*6+4,none⟩ (.bool false)).setCell ⟨b,2+k*6+5,none⟩ (.int .i64 0)) b (putT T k l.leave):=by
 have h1:=h.one k hk 4 (.bool false) ⟨l.fr,l.pg,l.dst,l.wr,false,l.att⟩ ke (by omega) _ rfl
 have h2:=h1.one k hk 5 (.int .i64 0) l.leave (by rw [put_same];rfl) (by omega) _ rfl
 rwa [put_put] at h2
end Go.Proofs.YtokpmclmdobgeaaGreat.Sh
namespace Go.Proofs.YtokpmclmdobgeaaGreat.Sh
variable {E:Value × Value × Value}
set_option maxRecDepth 8000
set_option maxRecDepth 8000
theorem accept_any (b:Nat) (T:Nat->Gr) (i o a:Int) (w:World) (h:IsTab E w b T) :
 Calls Tryz.prog 83 #[.pointer (some ⟨b,2,none⟩),.int .i64 i,.int .i64 o,.int .i64 a] w fun e w'=>e=.returned (.int .i64 (accE T i o a))/\IsTab E w' b (accT T i o a)/\w.grownBy w' (some b):=by
 have G:Hid (∀ W:World,IsTab E W b T->Calls Tryz.prog 84 #[.pointer (some ⟨b,2,none⟩),.int .i64 i] W (re (.tuple #[(getG T i).val,.bool (getG T i).is]) W)):=fun W h=>get_any b T i W h
 have HT:Hid (IsTab E w b T):=h
 have hb:=h.2.2.1
 have PA:Hid (∀ W:World,Calls Tryz.prog 75 #[.int .i64 a] W fun e w'=>e=.returned (.bool (isPage a))/\w'=W):=fun W=>ownPage_any a W
 by_cases z:(getG T i).is=false
 . obtain ⟨e1,e2⟩:=acc5 (a:=a) (o:=o) (Or.inl z)
   rw [e1,e2]
   rw [z] at G
   clear e1 e2 h z
   generalize getG T i=l at G
   obtain ⟨lf,lp,ld,lw,lt,la⟩:=l
   go_enter Tryz.func83,Tryz.ntmps83
   go_wp2_with fail
   refine (G.out _ (HT.out)).mono ?_
   rintro e u1 ⟨rfl,hb1⟩
   have B1:Hid (bc w u1):=hb1
   skip
   clear hb1
   go_wp2_with fail
   go_ret
   exact ⟨rfl,HT.out.below (below_new B1.out _),grown_of_below (below_new B1.out _) _⟩
 replace z:(getG T i).is=true:=by simpa using z
 rw [z] at G
 by_cases c:(getG T i).dst=o
 . by_cases d:(getG T i).tk=true
   . obtain ⟨e1,e2⟩:=acc11 (a:=a) z c d
     rw [e1,e2]
     clear e1 e2 h z
     generalize getG T i=l at G c d
     obtain ⟨lf,lp,ld,lw,lt,la⟩:=l
     simp only at c d
     subst d
     have cb:(ld==o)=true:=by simp [c]
     have cn:(ld != o)=false:=by simp [c]
     clear c
     go_enter Tryz.func83,Tryz.ntmps83
     go_wp2_with fail
     refine (G.out _ (HT.out)).mono ?_
     rintro e u1 ⟨rfl,hb1⟩
     have B1:Hid (bc w u1):=hb1
     skip
     clear hb1
     go_wp2_with fail
     go_ret
     exact ⟨rfl,HT.out.below (below_new B1.out _),grown_of_below (below_new B1.out _) _⟩
   . replace d:(getG T i).tk=false:=by simpa using d
     by_cases g:isPage a=true
     . obtain ⟨e1,e2⟩:=acc0 (a:=a) z c d g
       rw [e1,e2]
       rw [g] at PA
       clear e1 e2 g
       obtain ⟨k,rfl,hk,hg⟩:=is_in z
       rw [Int.toNat_natCast]
       rw [hg] at G c d
       have k0:(0:Int)<=(k:Int):=by omega
       have k6:(k:Int)<256:=by omega
       clear h z hg
       obtain ⟨l,hl⟩: ∃ l,T k=l:=⟨_,rfl⟩
       have HL:Hid (T k=l):=hl
       rw [hl] at G c d |-
       clear hl
       obtain ⟨lf,lp,ld,lw,lt,la⟩:=l
       simp only at c d
       subst d
       have cb:(ld==o)=true:=by simp [c]
       have cn:(ld != o)=false:=by simp [c]
       clear c
       go_enter Tryz.func83,Tryz.ntmps83
       go_wp2_with fail
       refine (G.out _ (HT.out)).mono ?_
       rintro e u1 ⟨rfl,hb1⟩
       have B1:Hid (bc w u1):=hb1
       skip
       clear hb1
       have T1:Hid (IsTab E u1 b T):=HT.out.below B1.out
       have lb:b<u1.heap.size:=nla hb B1.out.size
       go_wp2_with fail
       refine (PA.out _).mono ?_
       rintro e u2 ⟨rfl,hu⟩
       have T2:Hid (IsTab E u2 b T):=by rw [hu];exact T1.out.below baa
       have B2:Hid (bc w u2):=by rw [hu];exact below_new B1.out _
       have G2:Hid (w.grownBy u2 (some b)):=grown_of_below B2.out _
       have x0:u2.cell? ⟨u1.heap.size,0,none⟩=some (.int .i64 lf):=by rw [hu];simp
       have x1:u2.cell? ⟨u1.heap.size,1,none⟩=some (.int .i64 lp):=by rw [hu];simp
       have x2:u2.cell? ⟨u1.heap.size,2,none⟩=some (.int .i64 ld):=by rw [hu];simp
       have x3:u2.cell? ⟨u1.heap.size,3,none⟩=some (.bool lw):=by rw [hu];simp
       have x4:u2.cell? ⟨u1.heap.size,4,none⟩=some (.bool false):=by rw [hu];simp
       have x5:u2.cell? ⟨u1.heap.size,5,none⟩=some (.int .i64 la):=by rw [hu];simp
       have y4:u2.frozen? ⟨u1.heap.size,4,none⟩=false:=by rw [hu];simp
       have y5:u2.frozen? ⟨u1.heap.size,5,none⟩=false:=by rw [hu];simp
       have lx:u1.heap.size<u2.heap.size:=by rw [hu];simp
       clear hu T1 PA G
       have c0:u2.cell? ⟨b,2+k*6,none⟩=some (.int .i64 lf):=T2.out.cell (k) (by omega) 0 _ ki _ (by omega)
       have c1:u2.cell? ⟨b,2+k*6+1,none⟩=some (.int .i64 lp):=T2.out.cell (k) (by omega) 1 _ ki _ (by omega)
       have c2:u2.cell? ⟨b,2+k*6+2,none⟩=some (.int .i64 ld):=T2.out.cell (k) (by omega) 2 _ ki _ (by omega)
       have c3:u2.cell? ⟨b,2+k*6+3,none⟩=some (.bool lw):=T2.out.cell (k) (by omega) 3 _ ki _ (by omega)
       have c4:u2.cell? ⟨b,2+k*6+4,none⟩=some (.bool false):=T2.out.cell (k) (by omega) 4 _ ki _ (by omega)
       have c5:u2.cell? ⟨b,2+k*6+5,none⟩=some (.int .i64 la):=T2.out.cell (k) (by omega) 5 _ ki _ (by omega)
       have g0:u2.frozen? ⟨b,2+k*6,none⟩=false:=T2.out.unfrozen _ (by omega)
       have g1:u2.frozen? ⟨b,2+k*6+1,none⟩=false:=T2.out.unfrozen _ (by omega)
       have g2:u2.frozen? ⟨b,2+k*6+2,none⟩=false:=T2.out.unfrozen _ (by omega)
       have g3:u2.frozen? ⟨b,2+k*6+3,none⟩=false:=T2.out.unfrozen _ (by omega)
       have g4:u2.frozen? ⟨b,2+k*6+4,none⟩=false:=T2.out.unfrozen _ (by omega)
       have g5:u2.frozen? ⟨b,2+k*6+5,none⟩=false:=T2.out.unfrozen _ (by omega)
       go_wp2_with fail
       go_region
       all_goals go_wp2_with fail
       all_goals go_ret
       all_goals exact ⟨rfl,acc_tab T2.out hk HL.out lb,acc_grown G2.out lb B1.out.size⟩
     . replace g:isPage a=false:=by simpa using g
       obtain ⟨e1,e2⟩:=acc1 (a:=a) z c d g
       rw [e1,e2]
       rw [g] at PA
       clear e1 e2 h z g
       generalize getG T i=l at G c d
       obtain ⟨lf,lp,ld,lw,lt,la⟩:=l
       simp only at c d
       subst d
       have cb:(ld==o)=true:=by simp [c]
       have cn:(ld != o)=false:=by simp [c]
       clear c
       go_enter Tryz.func83,Tryz.ntmps83
       go_wp2_with fail
       refine (G.out _ (HT.out)).mono ?_
       rintro e u1 ⟨rfl,hb1⟩
       have B1:Hid (bc w u1):=hb1
       skip
       clear hb1
       go_wp2_with fail
       refine (PA.out _).mono ?_
       rintro e u2 ⟨rfl,hu⟩
       have B2:Hid (bc w u2):=by rw [hu];exact below_new B1.out _
       clear hu
       go_wp2_with fail
       go_ret
       exact ⟨rfl,HT.out.below B2.out,grown_of_below B2.out _⟩
 . obtain ⟨e1,e2⟩:=acc5 (a:=a) (o:=o) (Or.inr c)
   rw [e1,e2]
   clear e1 e2 h z
   generalize getG T i=l at G c
   obtain ⟨lf,lp,ld,lw,lt,la⟩:=l
   simp only at c
   have cb:(ld==o)=false:=by simp [c]
   have cn:(ld != o)=true:=by simp [c]
   go_enter Tryz.func83,Tryz.ntmps83
   go_wp2_with fail
   refine (G.out _ (HT.out)).mono ?_
   rintro e u1 ⟨rfl,hb1⟩
   have B1:Hid (bc w u1):=hb1
   skip
   clear hb1
   go_wp2_with fail
   go_ret
   exact ⟨rfl,HT.out.below (below_new B1.out _),grown_of_below (below_new B1.out _) _⟩
end Go.Proofs.YtokpmclmdobgeaaGreat.Sh
namespace Go.Proofs.YtokpmclmdobgeaaGreat.Sh
variable {E:Value × Value × Value}
set_option maxRecDepth 8000
set_option maxRecDepth 8000
theorem leave_any (b:Nat) (T:Nat->Gr) (i o:Int) (w:World) (h:IsTab E w b T) :
 Calls Tryz.prog 86 #[.pointer (some ⟨b,2,none⟩),.int .i64 i,.int .i64 o] w fun e w'=>e=.returned (.tuple #[(leaG T i o).val,.int .i64 (leaE T i o)])/\IsTab E w' b (leaT T i o)/\w.grownBy w' (some b):=by
 have G:Hid (∀ W:World,IsTab E W b T->Calls Tryz.prog 84 #[.pointer (some ⟨b,2,none⟩),.int .i64 i] W (re (.tuple #[(getG T i).val,.bool (getG T i).is]) W)):=fun W h=>get_any b T i W h
 have HT:Hid (IsTab E w b T):=h
 have hb:=h.2.2.1
 by_cases z:(getG T i).is=false
 . obtain ⟨e1,e2,e3⟩:=lea5 (o:=o) (Or.inl z)
   rw [z] at G
   rw [e1,e2,e3]
   clear e1 e2 e3 h z
   generalize getG T i=l at G
   obtain ⟨lf,lp,ld,lw,lt,la⟩:=l
   go_enter Tryz.func86,Tryz.ntmps86
   go_wp2_with fail
   refine (G.out _ (HT.out.below baa)).mono ?_
   rintro e u1 ⟨rfl,hb1⟩
   have B1:Hid (bc w u1):=below_then baa hb1
   have TB:Hid (u1.there w.heap.size 0 6):=there_below (there_block (own1 w _)) (by simp) hb1
   have RB:Hid (u1.rangeAt w.heap.size 0 sp1):=range_below (range_block w _ _) (by simp) hb1
   have lsz:w.heap.size<u1.heap.size:=nla (by simp) hb1.size
   clear hb1
   go_upto_region 2 with fail
   have T1:Hid (IsTab E (u1.alloc (.cells (sb1 lf lp ld lw lt la) 55)) b T):=HT.out.below (below_new B1.out _)
   have B2:Hid (bc w (u1.alloc (.cells (sb1 lf lp ld lw lt la) 55))):=below_new B1.out _
   have TC:Hid ((u1.alloc (.cells (sb1 lf lp ld lw lt la) 55)).there w.heap.size 0 6):=there_below TB.out lsz baa
   have RC:Hid ((u1.alloc (.cells (sb1 lf lp ld lw lt la) 55)).rangeAt u1.heap.size 0 (sa1 lf lp ld lw lt la)):=range_block _ _ _
   have lB:u1.heap.size<(u1.alloc (.cells (sb1 lf lp ld lw lt la) 55)).heap.size:=by simp
   have lb:b<u1.heap.size:=nla hb B1.out.size
   have RD:Hid ((u1.alloc (.cells (sb1 lf lp ld lw lt la) 55)).rangeAt w.heap.size 0 sp1):=range_below RB.out lsz baa
   clear TB G RB
   have TB:=TC
   have RB:=RD
   clear TC RD
   generalize (u1.alloc (.cells (sb1 lf lp ld lw lt la) 55))=U at T1 B2 TB RB RC lB |-
   have x0:=range_at RC.out 0 rfl
   have x1:=range_at RC.out 1 rfl
   have x2:=range_at RC.out 2 rfl
   have x3:=range_at RC.out 3 rfl
   have x4:=range_at RC.out 4 rfl
   have x5:=range_at RC.out 5 rfl
   have n0:=range_at RB.out 0 rfl
   have n1:=range_at RB.out 1 rfl
   have n2:=range_at RB.out 2 rfl
   have n3:=range_at RB.out 3 rfl
   have n4:=range_at RB.out 4 rfl
   have n5:=range_at RB.out 5 rfl
   have z0:U.frozen? ⟨w.heap.size,0,none⟩=false:=(TB.out 0 (by omega)).2
   have z1:U.frozen? ⟨w.heap.size,1,none⟩=false:=(TB.out 1 (by omega)).2
   have z2:U.frozen? ⟨w.heap.size,2,none⟩=false:=(TB.out 2 (by omega)).2
   have z3:U.frozen? ⟨w.heap.size,3,none⟩=false:=(TB.out 3 (by omega)).2
   have z4:U.frozen? ⟨w.heap.size,4,none⟩=false:=(TB.out 4 (by omega)).2
   have z5:U.frozen? ⟨w.heap.size,5,none⟩=false:=(TB.out 5 (by omega)).2
   go_wp2_with fail
   refine bodyPost_ret kh1 rfl ?_
   exact ⟨rfl,tab_box T1.out (grown6 _ _ _ _ _ _ _ _) B2.out hb,grown_box (grown6 _ _ _ _ _ _ _ _) B2.out⟩
 replace z:(getG T i).is=true:=by simpa using z
 rw [z] at G
 by_cases c:(getG T i).dst=o
 . by_cases d:(getG T i).tk=true
   . obtain ⟨e1,e2,e3⟩:=lea0 z c d
     rw [e1,e2,e3]
     clear e1 e2 e3
     obtain ⟨k,rfl,hk,hg⟩:=is_in z
     rw [Int.toNat_natCast]
     rw [hg] at G c d |-
     have k0:(0:Int)<=(k:Int):=by omega
     have k6:(k:Int)<256:=by omega
     clear h z hg
     obtain ⟨l,hl⟩: ∃ l,T k=l:=⟨_,rfl⟩
     have HL:Hid (T k=l):=hl
     rw [hl] at G c d |-
     clear hl
     obtain ⟨lf,lp,ld,lw,lt,la⟩:=l
     simp only at c d
     subst d
     have cb:(ld==o)=true:=by simp [c]
     have cn:(ld != o)=false:=by simp [c]
     clear c
     go_enter Tryz.func86,Tryz.ntmps86
     go_wp2_with fail
     refine (G.out _ (HT.out.below baa)).mono ?_
     rintro e u1 ⟨rfl,hb1⟩
     have B1:Hid (bc w u1):=below_then baa hb1
     have TB:Hid (u1.there w.heap.size 0 6):=there_below (there_block (own1 w _)) (by simp) hb1
     have RB:Hid (u1.rangeAt w.heap.size 0 sp1):=range_below (range_block w _ _) (by simp) hb1
     have lsz:w.heap.size<u1.heap.size:=nla (by simp) hb1.size
     clear hb1
     go_upto_region 2 with fail
     have T1:Hid (IsTab E (u1.alloc (.cells (sb1 lf lp ld lw true la) 55)) b T):=HT.out.below (below_new B1.out _)
     have B2:Hid (bc w (u1.alloc (.cells (sb1 lf lp ld lw true la) 55))):=below_new B1.out _
     have TC:Hid ((u1.alloc (.cells (sb1 lf lp ld lw true la) 55)).there w.heap.size 0 6):=there_below TB.out lsz baa
     have RC:Hid ((u1.alloc (.cells (sb1 lf lp ld lw true la) 55)).rangeAt u1.heap.size 0 (sa1 lf lp ld lw true la)):=range_block _ _ _
     have lB:u1.heap.size<(u1.alloc (.cells (sb1 lf lp ld lw true la) 55)).heap.size:=by simp
     have lb:b<u1.heap.size:=nla hb B1.out.size
     have RD:Hid ((u1.alloc (.cells (sb1 lf lp ld lw true la) 55)).rangeAt w.heap.size 0 sp1):=range_below RB.out lsz baa
     clear TB G RB
     have TB:=TC
     have RB:=RD
     clear TC RD
     generalize (u1.alloc (.cells (sb1 lf lp ld lw true la) 55))=U at T1 B2 TB RB RC lB |-
     have x0:=range_at RC.out 0 rfl
     have x1:=range_at RC.out 1 rfl
     have x2:=range_at RC.out 2 rfl
     have x3:=range_at RC.out 3 rfl
     have x4:=range_at RC.out 4 rfl
     have x5:=range_at RC.out 5 rfl
     have c4:U.cell? ⟨b,2+k*6+4,none⟩=some (.bool true):=T1.out.cell (k) (by omega) 4 _ ki _ (by omega)
     have c5:U.cell? ⟨b,2+k*6+5,none⟩=some (.int .i64 la):=T1.out.cell (k) (by omega) 5 _ ki _ (by omega)
     have g4:U.frozen? ⟨b,2+k*6+4,none⟩=false:=T1.out.unfrozen _ (by omega)
     have g5:U.frozen? ⟨b,2+k*6+5,none⟩=false:=T1.out.unfrozen _ (by omega)
     go_wp2_with fail
     go_region
     have T2:Hid (IsTab E (((U.setCell ⟨b,2+k*6+4,none⟩ (.bool false)).setCell ⟨b,2+k*6+5,none⟩ (.int .i64 0)).drew) b (putT T k (Gr.leave ⟨lf,lp,ld,lw,true,la⟩))):=T1.out.left hk HL.out
     have G2:Hid (U.grownBy (((U.setCell ⟨b,2+k*6+4,none⟩ (.bool false)).setCell ⟨b,2+k*6+5,none⟩ (.int .i64 0)).drew) (some b)):=grown_drew (grown_trans (grown_setCell1 _ _ _ _) (grown_setCell1 _ _ _ _))
     generalize (((U.setCell ⟨b,2+k*6+4,none⟩ (.bool false)).setCell ⟨b,2+k*6+5,none⟩ (.int .i64 0)).drew)=V at T2 G2 |-
     have RV:Hid (V.rangeAt u1.heap.size 0 (sa1 lf lp ld lw true la)):=range_grown RC.out lB (by omega) G2.out
     have TV:Hid (V.there w.heap.size 0 6):=there_grown TB.out (by omega) (by omega) G2.out
     have RW:Hid (V.rangeAt w.heap.size 0 sp1):=range_grown RB.out (by omega) (by omega) G2.out
     clear x0 x1 x2 x3 x4 x5 TB RB
     have x0:=range_at RV.out 0 rfl
     have x1:=range_at RV.out 1 rfl
     have x2:=range_at RV.out 2 rfl
     have x3:=range_at RV.out 3 rfl
     have x4:=range_at RV.out 4 rfl
     have x5:=range_at RV.out 5 rfl
     have TB:=TV
     have RB:=RW
     clear TV RW
     have n0:=range_at RB.out 0 rfl
     have n1:=range_at RB.out 1 rfl
     have n2:=range_at RB.out 2 rfl
     have n3:=range_at RB.out 3 rfl
     have n4:=range_at RB.out 4 rfl
     have n5:=range_at RB.out 5 rfl
     have z0:V.frozen? ⟨w.heap.size,0,none⟩=false:=(TB.out 0 (by omega)).2
     have z1:V.frozen? ⟨w.heap.size,1,none⟩=false:=(TB.out 1 (by omega)).2
     have z2:V.frozen? ⟨w.heap.size,2,none⟩=false:=(TB.out 2 (by omega)).2
     have z3:V.frozen? ⟨w.heap.size,3,none⟩=false:=(TB.out 3 (by omega)).2
     have z4:V.frozen? ⟨w.heap.size,4,none⟩=false:=(TB.out 4 (by omega)).2
     have z5:V.frozen? ⟨w.heap.size,5,none⟩=false:=(TB.out 5 (by omega)).2
     go_wp2_with fail
     refine bodyPost_ret kh1 rfl ?_
     exact ⟨rfl,tab_box2 T2.out (grown6 _ _ _ _ _ _ _ _) hb,grown_box2 B2.out G2.out (grown6 _ _ _ _ _ _ _ _)⟩
   . replace d:(getG T i).tk=false:=by simpa using d
     obtain ⟨e1,e2,e3⟩:=lea5 (o:=o) (Or.inr (Or.inr d))
     rw [e1,e2,e3]
     clear e1 e2 e3 h z
     generalize getG T i=l at G c d
     obtain ⟨lf,lp,ld,lw,lt,la⟩:=l
     simp only at c d
     subst d
     have cb:(ld==o)=true:=by simp [c]
     have cn:(ld != o)=false:=by simp [c]
     clear c
     go_enter Tryz.func86,Tryz.ntmps86
     go_wp2_with fail
     refine (G.out _ (HT.out.below baa)).mono ?_
     rintro e u1 ⟨rfl,hb1⟩
     have B1:Hid (bc w u1):=below_then baa hb1
     have TB:Hid (u1.there w.heap.size 0 6):=there_below (there_block (own1 w _)) (by simp) hb1
     have RB:Hid (u1.rangeAt w.heap.size 0 sp1):=range_below (range_block w _ _) (by simp) hb1
     have lsz:w.heap.size<u1.heap.size:=nla (by simp) hb1.size
     clear hb1
     go_upto_region 2 with fail
     have T1:Hid (IsTab E (u1.alloc (.cells (sb1 lf lp ld lw false la) 55)) b T):=HT.out.below (below_new B1.out _)
     have B2:Hid (bc w (u1.alloc (.cells (sb1 lf lp ld lw false la) 55))):=below_new B1.out _
     have TC:Hid ((u1.alloc (.cells (sb1 lf lp ld lw false la) 55)).there w.heap.size 0 6):=there_below TB.out lsz baa
     have RC:Hid ((u1.alloc (.cells (sb1 lf lp ld lw false la) 55)).rangeAt u1.heap.size 0 (sa1 lf lp ld lw false la)):=range_block _ _ _
     have lB:u1.heap.size<(u1.alloc (.cells (sb1 lf lp ld lw false la) 55)).heap.size:=by simp
     have lb:b<u1.heap.size:=nla hb B1.out.size
     have RD:Hid ((u1.alloc (.cells (sb1 lf lp ld lw false la) 55)).rangeAt w.heap.size 0 sp1):=range_below RB.out lsz baa
     clear TB G RB
     have TB:=TC
     have RB:=RD
     clear TC RD
     generalize (u1.alloc (.cells (sb1 lf lp ld lw false la) 55))=U at T1 B2 TB RB RC lB |-
     have x0:=range_at RC.out 0 rfl
     have x1:=range_at RC.out 1 rfl
     have x2:=range_at RC.out 2 rfl
     have x3:=range_at RC.out 3 rfl
     have x4:=range_at RC.out 4 rfl
     have x5:=range_at RC.out 5 rfl
     have n0:=range_at RB.out 0 rfl
     have n1:=range_at RB.out 1 rfl
     have n2:=range_at RB.out 2 rfl
     have n3:=range_at RB.out 3 rfl
     have n4:=range_at RB.out 4 rfl
     have n5:=range_at RB.out 5 rfl
     have z0:U.frozen? ⟨w.heap.size,0,none⟩=false:=(TB.out 0 (by omega)).2
     have z1:U.frozen? ⟨w.heap.size,1,none⟩=false:=(TB.out 1 (by omega)).2
     have z2:U.frozen? ⟨w.heap.size,2,none⟩=false:=(TB.out 2 (by omega)).2
     have z3:U.frozen? ⟨w.heap.size,3,none⟩=false:=(TB.out 3 (by omega)).2
     have z4:U.frozen? ⟨w.heap.size,4,none⟩=false:=(TB.out 4 (by omega)).2
     have z5:U.frozen? ⟨w.heap.size,5,none⟩=false:=(TB.out 5 (by omega)).2
     go_wp2_with fail
     refine bodyPost_ret kh1 rfl ?_
     exact ⟨rfl,tab_box T1.out (grown6 _ _ _ _ _ _ _ _) B2.out hb,grown_box (grown6 _ _ _ _ _ _ _ _) B2.out⟩
 . obtain ⟨e1,e2,e3⟩:=lea5 (o:=o) (Or.inr (Or.inl c))
   rw [e1,e2,e3]
   clear e1 e2 e3 h z
   generalize getG T i=l at G c
   obtain ⟨lf,lp,ld,lw,lt,la⟩:=l
   simp only at c
   have cb:(ld==o)=false:=by simp [c]
   have cn:(ld != o)=true:=by simp [c]
   go_enter Tryz.func86,Tryz.ntmps86
   go_wp2_with fail
   refine (G.out _ (HT.out.below baa)).mono ?_
   rintro e u1 ⟨rfl,hb1⟩
   have B1:Hid (bc w u1):=below_then baa hb1
   have TB:Hid (u1.there w.heap.size 0 6):=there_below (there_block (own1 w _)) (by simp) hb1
   have RB:Hid (u1.rangeAt w.heap.size 0 sp1):=range_below (range_block w _ _) (by simp) hb1
   have lsz:w.heap.size<u1.heap.size:=nla (by simp) hb1.size
   clear hb1
   go_upto_region 2 with fail
   have T1:Hid (IsTab E (u1.alloc (.cells (sb1 lf lp ld lw lt la) 55)) b T):=HT.out.below (below_new B1.out _)
   have B2:Hid (bc w (u1.alloc (.cells (sb1 lf lp ld lw lt la) 55))):=below_new B1.out _
   have TC:Hid ((u1.alloc (.cells (sb1 lf lp ld lw lt la) 55)).there w.heap.size 0 6):=there_below TB.out lsz baa
   have RC:Hid ((u1.alloc (.cells (sb1 lf lp ld lw lt la) 55)).rangeAt u1.heap.size 0 (sa1 lf lp ld lw lt la)):=range_block _ _ _
   have lB:u1.heap.size<(u1.alloc (.cells (sb1 lf lp ld lw lt la) 55)).heap.size:=by simp
   have lb:b<u1.heap.size:=nla hb B1.out.size
   have RD:Hid ((u1.alloc (.cells (sb1 lf lp ld lw lt la) 55)).rangeAt w.heap.size 0 sp1):=range_below RB.out lsz baa
   clear TB G RB
   have TB:=TC
   have RB:=RD
   clear TC RD
   generalize (u1.alloc (.cells (sb1 lf lp ld lw lt la) 55))=U at T1 B2 TB RB RC lB |-
   have x0:=range_at RC.out 0 rfl
   have x1:=range_at RC.out 1 rfl
   have x2:=range_at RC.out 2 rfl
   have x3:=range_at RC.out 3 rfl
   have x4:=range_at RC.out 4 rfl
   have x5:=range_at RC.out 5 rfl
   have n0:=range_at RB.out 0 rfl
   have n1:=range_at RB.out 1 rfl
   have n2:=range_at RB.out 2 rfl
   have n3:=range_at RB.out 3 rfl
   have n4:=range_at RB.out 4 rfl
   have n5:=range_at RB.out 5 rfl
   have z0:U.frozen? ⟨w.heap.size,0,none⟩=false:=(TB.out 0 (by omega)).2
   have z1:U.frozen? ⟨w.heap.size,1,none⟩=false:=(TB.out 1 (by omega)).2
   have z2:U.frozen? ⟨w.heap.size,2,none⟩=false:=(TB.out 2 (by omega)).2
   have z3:U.frozen? ⟨w.heap.size,3,none⟩=false:=(TB.out 3 (by omega)).2
   have z4:U.frozen? ⟨w.heap.size,4,none⟩=false:=(TB.out 4 (by omega)).2
   have z5:U.frozen? ⟨w.heap.size,5,none⟩=false:=(TB.out 5 (by omega)).2
   go_wp2_with fail
   refine bodyPost_ret kh1 rfl ?_
   exact ⟨rfl,tab_box T1.out (grown6 _ _ _ _ _ _ _ _) B2.out hb,grown_box (grown6 _ _ _ _ _ _ _ _) B2.out⟩
end Go.Proofs.YtokpmclmdobgeaaGreat.Sh
namespace Go.Proofs.YtokpmclmdobgeaaGreat.Sh
variable {E:Value × Value × Value}
set_option maxRecDepth 8000
set_option maxRecDepth 8000
theorem revoke_any (b:Nat) (T:Nat->Gr) (i o:Int) (w:World) (h:IsTab E w b T) :
 Calls Tryz.prog 87 #[.pointer (some ⟨b,2,none⟩),.int .i64 i,.int .i64 o] w fun e w'=>e=.returned (.tuple #[(revG T i o).val,.int .i64 (revE T i o)])/\IsTab E w' b (revT T i o)/\w.grownBy w' (some b):=by
 have G:Hid (∀ W:World,IsTab E W b T->Calls Tryz.prog 84 #[.pointer (some ⟨b,2,none⟩),.int .i64 i] W (re (.tuple #[(getG T i).val,.bool (getG T i).is]) W)):=fun W h=>get_any b T i W h
 have HT:Hid (IsTab E w b T):=h
 have hb:=h.2.2.1
 by_cases z:(getG T i).is=false
 . obtain ⟨e1,e2,e3⟩:=rev5 (o:=o) (Or.inl z)
   rw [z] at G
   rw [e1,e2,e3]
   clear e1 e2 e3 h z
   generalize getG T i=l at G
   obtain ⟨lf,lp,ld,lw,lt,la⟩:=l
   go_enter Tryz.func87,Tryz.ntmps87
   go_wp2_with fail
   refine (G.out _ (HT.out.below baa)).mono ?_
   rintro e u1 ⟨rfl,hb1⟩
   have B1:Hid (bc w u1):=below_then baa hb1
   have TB:Hid (u1.there w.heap.size 0 6):=there_below (there_block (own1 w _)) (by simp) hb1
   have RB:Hid (u1.rangeAt w.heap.size 0 sp1):=range_below (range_block w _ _) (by simp) hb1
   have lsz:w.heap.size<u1.heap.size:=nla (by simp) hb1.size
   clear hb1
   go_upto_region 2 with fail
   have T1:Hid (IsTab E (u1.alloc (.cells (sb1 lf lp ld lw lt la) 55)) b T):=HT.out.below (below_new B1.out _)
   have B2:Hid (bc w (u1.alloc (.cells (sb1 lf lp ld lw lt la) 55))):=below_new B1.out _
   have TC:Hid ((u1.alloc (.cells (sb1 lf lp ld lw lt la) 55)).there w.heap.size 0 6):=there_below TB.out lsz baa
   have RC:Hid ((u1.alloc (.cells (sb1 lf lp ld lw lt la) 55)).rangeAt u1.heap.size 0 (sa1 lf lp ld lw lt la)):=range_block _ _ _
   have lB:u1.heap.size<(u1.alloc (.cells (sb1 lf lp ld lw lt la) 55)).heap.size:=by simp
   have lb:b<u1.heap.size:=nla hb B1.out.size
   have RD:Hid ((u1.alloc (.cells (sb1 lf lp ld lw lt la) 55)).rangeAt w.heap.size 0 sp1):=range_below RB.out lsz baa
   clear TB G RB
   have TB:=TC
   have RB:=RD
   clear TC RD
   generalize (u1.alloc (.cells (sb1 lf lp ld lw lt la) 55))=U at T1 B2 TB RB RC lB |-
   have x0:=range_at RC.out 0 rfl
   have x1:=range_at RC.out 1 rfl
   have x2:=range_at RC.out 2 rfl
   have x3:=range_at RC.out 3 rfl
   have x4:=range_at RC.out 4 rfl
   have x5:=range_at RC.out 5 rfl
   have n0:=range_at RB.out 0 rfl
   have n1:=range_at RB.out 1 rfl
   have n2:=range_at RB.out 2 rfl
   have n3:=range_at RB.out 3 rfl
   have n4:=range_at RB.out 4 rfl
   have n5:=range_at RB.out 5 rfl
   have z0:U.frozen? ⟨w.heap.size,0,none⟩=false:=(TB.out 0 (by omega)).2
   have z1:U.frozen? ⟨w.heap.size,1,none⟩=false:=(TB.out 1 (by omega)).2
   have z2:U.frozen? ⟨w.heap.size,2,none⟩=false:=(TB.out 2 (by omega)).2
   have z3:U.frozen? ⟨w.heap.size,3,none⟩=false:=(TB.out 3 (by omega)).2
   have z4:U.frozen? ⟨w.heap.size,4,none⟩=false:=(TB.out 4 (by omega)).2
   have z5:U.frozen? ⟨w.heap.size,5,none⟩=false:=(TB.out 5 (by omega)).2
   go_wp2_with fail
   refine bodyPost_ret (by simp [results,Tryz.results87,go_sem,n0,n1,n2,n3,n4,n5];try rfl) rfl ?_
   exact ⟨rfl,tab_box T1.out (grown6 _ _ _ _ _ _ _ _) B2.out hb,grown_box (grown6 _ _ _ _ _ _ _ _) B2.out⟩
 replace z:(getG T i).is=true:=by simpa using z
 rw [z] at G
 by_cases c:(getG T i).fr=o
 . obtain ⟨e1,e2,e3⟩:=rev0 z c
   rw [e1,e2,e3]
   clear e1 e2 e3
   obtain ⟨k,rfl,hk,hg⟩:=is_in z
   rw [Int.toNat_natCast]
   rw [hg] at G c |-
   have k0:(0:Int)<=(k:Int):=by omega
   have k6:(k:Int)<256:=by omega
   clear h z hg
   obtain ⟨l,hl⟩: ∃ l,T k=l:=⟨_,rfl⟩
   have HL:Hid (T k=l):=hl
   rw [hl] at G c |-
   clear hl
   obtain ⟨lf,lp,ld,lw,lt,la⟩:=l
   simp only at c
   skip
   have cb:(lf==o)=true:=by simp [c]
   have cn:(lf != o)=false:=by simp [c]
   clear c
   go_enter Tryz.func87,Tryz.ntmps87
   go_wp2_with fail
   refine (G.out _ (HT.out.below baa)).mono ?_
   rintro e u1 ⟨rfl,hb1⟩
   have B1:Hid (bc w u1):=below_then baa hb1
   have TB:Hid (u1.there w.heap.size 0 6):=there_below (there_block (own1 w _)) (by simp) hb1
   have RB:Hid (u1.rangeAt w.heap.size 0 sp1):=range_below (range_block w _ _) (by simp) hb1
   have lsz:w.heap.size<u1.heap.size:=nla (by simp) hb1.size
   clear hb1
   go_upto_region 2 with fail
   have T1:Hid (IsTab E (u1.alloc (.cells (sb1 lf lp ld lw lt la) 55)) b T):=HT.out.below (below_new B1.out _)
   have B2:Hid (bc w (u1.alloc (.cells (sb1 lf lp ld lw lt la) 55))):=below_new B1.out _
   have TC:Hid ((u1.alloc (.cells (sb1 lf lp ld lw lt la) 55)).there w.heap.size 0 6):=there_below TB.out lsz baa
   have RC:Hid ((u1.alloc (.cells (sb1 lf lp ld lw lt la) 55)).rangeAt u1.heap.size 0 (sa1 lf lp ld lw lt la)):=range_block _ _ _
   have lB:u1.heap.size<(u1.alloc (.cells (sb1 lf lp ld lw lt la) 55)).heap.size:=by simp
   have lb:b<u1.heap.size:=nla hb B1.out.size
   have RD:Hid ((u1.alloc (.cells (sb1 lf lp ld lw lt la) 55)).rangeAt w.heap.size 0 sp1):=range_below RB.out lsz baa
   clear TB G RB
   have TB:=TC
   have RB:=RD
   clear TC RD
   generalize (u1.alloc (.cells (sb1 lf lp ld lw lt la) 55))=U at T1 B2 TB RB RC lB |-
   have x0:=range_at RC.out 0 rfl
   have x1:=range_at RC.out 1 rfl
   have x2:=range_at RC.out 2 rfl
   have x3:=range_at RC.out 3 rfl
   have x4:=range_at RC.out 4 rfl
   have x5:=range_at RC.out 5 rfl
   go_upto_region 4 with fail
   clear x0 x1 x2 x3 x4 x5
   go_cut [25] (fun _ wx=>Hid (IsTab E wx b (putT T k Gr.zero))/\Hid (U.grownBy wx (some b)))
   case first =>
    have c0:U.cell? ⟨b,2+k*6,none⟩=some (.int .i64 lf):=T1.out.cell (k) (by omega) 0 _ ki _ (by omega)
    have g0:U.frozen? ⟨b,2+k*6,none⟩=false:=T1.out.unfrozen _ (by omega)
    have c1:U.cell? ⟨b,2+k*6+1,none⟩=some (.int .i64 lp):=T1.out.cell (k) (by omega) 1 _ ki _ (by omega)
    have g1:U.frozen? ⟨b,2+k*6+1,none⟩=false:=T1.out.unfrozen _ (by omega)
    have c2:U.cell? ⟨b,2+k*6+2,none⟩=some (.int .i64 ld):=T1.out.cell (k) (by omega) 2 _ ki _ (by omega)
    have g2:U.frozen? ⟨b,2+k*6+2,none⟩=false:=T1.out.unfrozen _ (by omega)
    have c3:U.cell? ⟨b,2+k*6+3,none⟩=some (.bool lw):=T1.out.cell (k) (by omega) 3 _ ki _ (by omega)
    have g3:U.frozen? ⟨b,2+k*6+3,none⟩=false:=T1.out.unfrozen _ (by omega)
    have c4:U.cell? ⟨b,2+k*6+4,none⟩=some (.bool lt):=T1.out.cell (k) (by omega) 4 _ ki _ (by omega)
    have g4:U.frozen? ⟨b,2+k*6+4,none⟩=false:=T1.out.unfrozen _ (by omega)
    have c5:U.cell? ⟨b,2+k*6+5,none⟩=some (.int .i64 la):=T1.out.cell (k) (by omega) 5 _ ki _ (by omega)
    have g5:U.frozen? ⟨b,2+k*6+5,none⟩=false:=T1.out.unfrozen _ (by omega)
    go_wp2_with fail
    go_meet
    have T2:=T1.out.put k hk Gr.zero
    have G2:=grown_setCells b Gr.zero.enc (2+k*6) U
    simp only [World.setCells,Gr.zero,Gr.enc] at T2 G2
    exact ⟨T2,G2⟩
   case rest =>
    obtain ⟨T2,G2⟩:=hcut
    have RV:Hid (wc.rangeAt u1.heap.size 0 (sa1 lf lp ld lw lt la)):=range_grown RC.out lB (by omega) G2.out
    have TV:Hid (wc.there w.heap.size 0 6):=there_grown TB.out (by omega) (by omega) G2.out
    have RW:Hid (wc.rangeAt w.heap.size 0 sp1):=range_grown RB.out (by omega) (by omega) G2.out
    clear TB RB
    have x0:=range_at RV.out 0 rfl
    have x1:=range_at RV.out 1 rfl
    have x2:=range_at RV.out 2 rfl
    have x3:=range_at RV.out 3 rfl
    have x4:=range_at RV.out 4 rfl
    have x5:=range_at RV.out 5 rfl
    have TB:=TV
    have RB:=RW
    clear TV RW
    have n0:=range_at RB.out 0 rfl
    have n1:=range_at RB.out 1 rfl
    have n2:=range_at RB.out 2 rfl
    have n3:=range_at RB.out 3 rfl
    have n4:=range_at RB.out 4 rfl
    have n5:=range_at RB.out 5 rfl
    have z0:wc.frozen? ⟨w.heap.size,0,none⟩=false:=(TB.out 0 (by omega)).2
    have z1:wc.frozen? ⟨w.heap.size,1,none⟩=false:=(TB.out 1 (by omega)).2
    have z2:wc.frozen? ⟨w.heap.size,2,none⟩=false:=(TB.out 2 (by omega)).2
    have z3:wc.frozen? ⟨w.heap.size,3,none⟩=false:=(TB.out 3 (by omega)).2
    have z4:wc.frozen? ⟨w.heap.size,4,none⟩=false:=(TB.out 4 (by omega)).2
    have z5:wc.frozen? ⟨w.heap.size,5,none⟩=false:=(TB.out 5 (by omega)).2
    go_wp2_with fail
    refine bodyPost_ret (by simp [results,Tryz.results87,go_sem,n0,n1,n2,n3,n4,n5];try rfl) rfl ?_
    exact ⟨rfl,tab_box2 T2.out (grown6 _ _ _ _ _ _ _ _) hb,grown_box2 B2.out G2.out (grown6 _ _ _ _ _ _ _ _)⟩
 . obtain ⟨e1,e2,e3⟩:=rev5 (o:=o) (Or.inr c)
   rw [e1,e2,e3]
   clear e1 e2 e3 h z
   generalize getG T i=l at G c
   obtain ⟨lf,lp,ld,lw,lt,la⟩:=l
   simp only at c
   have cb:(lf==o)=false:=by simp [c]
   have cn:(lf != o)=true:=by simp [c]
   go_enter Tryz.func87,Tryz.ntmps87
   go_wp2_with fail
   refine (G.out _ (HT.out.below baa)).mono ?_
   rintro e u1 ⟨rfl,hb1⟩
   have B1:Hid (bc w u1):=below_then baa hb1
   have TB:Hid (u1.there w.heap.size 0 6):=there_below (there_block (own1 w _)) (by simp) hb1
   have RB:Hid (u1.rangeAt w.heap.size 0 sp1):=range_below (range_block w _ _) (by simp) hb1
   have lsz:w.heap.size<u1.heap.size:=nla (by simp) hb1.size
   clear hb1
   go_upto_region 2 with fail
   have T1:Hid (IsTab E (u1.alloc (.cells (sb1 lf lp ld lw lt la) 55)) b T):=HT.out.below (below_new B1.out _)
   have B2:Hid (bc w (u1.alloc (.cells (sb1 lf lp ld lw lt la) 55))):=below_new B1.out _
   have TC:Hid ((u1.alloc (.cells (sb1 lf lp ld lw lt la) 55)).there w.heap.size 0 6):=there_below TB.out lsz baa
   have RC:Hid ((u1.alloc (.cells (sb1 lf lp ld lw lt la) 55)).rangeAt u1.heap.size 0 (sa1 lf lp ld lw lt la)):=range_block _ _ _
   have lB:u1.heap.size<(u1.alloc (.cells (sb1 lf lp ld lw lt la) 55)).heap.size:=by simp
   have lb:b<u1.heap.size:=nla hb B1.out.size
   have RD:Hid ((u1.alloc (.cells (sb1 lf lp ld lw lt la) 55)).rangeAt w.heap.size 0 sp1):=range_below RB.out lsz baa
   clear TB G RB
   have TB:=TC
   have RB:=RD
   clear TC RD
   generalize (u1.alloc (.cells (sb1 lf lp ld lw lt la) 55))=U at T1 B2 TB RB RC lB |-
   have x0:=range_at RC.out 0 rfl
   have x1:=range_at RC.out 1 rfl
   have x2:=range_at RC.out 2 rfl
   have x3:=range_at RC.out 3 rfl
   have x4:=range_at RC.out 4 rfl
   have x5:=range_at RC.out 5 rfl
   have n0:=range_at RB.out 0 rfl
   have n1:=range_at RB.out 1 rfl
   have n2:=range_at RB.out 2 rfl
   have n3:=range_at RB.out 3 rfl
   have n4:=range_at RB.out 4 rfl
   have n5:=range_at RB.out 5 rfl
   have z0:U.frozen? ⟨w.heap.size,0,none⟩=false:=(TB.out 0 (by omega)).2
   have z1:U.frozen? ⟨w.heap.size,1,none⟩=false:=(TB.out 1 (by omega)).2
   have z2:U.frozen? ⟨w.heap.size,2,none⟩=false:=(TB.out 2 (by omega)).2
   have z3:U.frozen? ⟨w.heap.size,3,none⟩=false:=(TB.out 3 (by omega)).2
   have z4:U.frozen? ⟨w.heap.size,4,none⟩=false:=(TB.out 4 (by omega)).2
   have z5:U.frozen? ⟨w.heap.size,5,none⟩=false:=(TB.out 5 (by omega)).2
   go_wp2_with fail
   refine bodyPost_ret (by simp [results,Tryz.results87,go_sem,n0,n1,n2,n3,n4,n5];try rfl) rfl ?_
   exact ⟨rfl,tab_box T1.out (grown6 _ _ _ _ _ _ _ _) B2.out hb,grown_box (grown6 _ _ _ _ _ _ _ _) B2.out⟩
end Go.Proofs.YtokpmclmdobgeaaGreat.Sh
namespace Go.Proofs.YtokpmclmdobgeaaGreat.Sh
variable {E:Value × Value × Value}
set_option maxRecDepth 8000
set_option maxRecDepth 8000
theorem int_info5:(Tryz.prog.info? 3).map (fun i=>(i.zero,i.size,i.bytes))=some (some (.int .i64 0),1,8):=kc
theorem info5 {P:Program} {e:TypeId} {z:Value} {s b:Nat} (h:(P.info? e).map (fun i=>(i.zero,i.size,i.bytes))=some (some z,s,b)): ∃ i:TypeInfo,P.info? e=some i/\i.zero=some z/\i.size=s/\i.bytes=b:=by
 cases hq:P.info? e with
 | none => simp [hq] at h
 | some i =>
  simp [hq] at h
  exact ⟨i,rfl,h.1,h.2.1,h.2.2⟩
theorem own_keep {w w':World} {base n e s:Nat} {v:Value} {xs:List Value} (h:w.ownsRow base e s v n xs) (hb:bc w w'):w'.ownsRow base e s v n xs:=by
 obtain ⟨h1,h2⟩:=h
 refine ⟨h1,?_⟩
 rcases h2 with h2 | ⟨g',cap',cur,e1,e2,e3,e4⟩
 . exact Or.inl h2
 . have hg':g'<w.heap.size:=(Array.getElem?_eq_some_iff.1 e3).1
   exact Or.inr ⟨g',cap',cur,e1,e2,(hb.block g' hg').trans e3,e4⟩
theorem own_base {w:World} {base n e s:Nat} {v:Value} {xs:List Value} (h:w.ownsRow base e s v n xs): ∀ j,v.ownBlock=some j->base<=j:=by
 obtain ⟨h1,h2⟩:=h
 rcases h2 with h2 | ⟨g',cap',cur,e1,e2,e3,e4⟩
 . rw [h2.1];intro j hj;cases hj
 . rw [e1];intro j hj;cases hj;exact e2
theorem below_grown {w U a0:World} {v:Value} {n e s:Nat} {xs:List Value} (B:bc w U) (O:U.ownsRow w.heap.size e s v n xs) (hg:U.grownBy a0 v.ownBlock):bc w a0 :=
 B.grown hg B.size (fun j ej=>own_base O j ej)
def ofP (g:Gr) (p:Int):Bool:=g.is && (g.fr==p || g.dst==p)
def ofL (T:Nat->Gr) (p:Int):Nat->List Nat
 | 0 => []
 | m + 1 => ofL T p m ++ (if ofP (T m) p then [m] else [])
theorem of_len (T:Nat->Gr) (p:Int): ∀ m,(ofL T p m).length<=m
 | 0 => by simp [ofL]
 | m + 1 => by
  have:=of_len T p m
  simp only [ofL,List.length_append]
  split <;> simp <;> omega
theorem of_yes (T:Nat->Gr) (p:Int) (m:Nat) (h:ofP (T m) p=true):ofL T p (m+1)=ofL T p m++[m]:=by rw [ofL,if_pos h]
theorem of_no (T:Nat->Gr) (p:Int) (m:Nat) (h:ofP (T m) p=false):ofL T p (m+1)=ofL T p m:=by rw [ofL,if_neg (by rw [h];simp),List.append_nil]
def numV (L:List Nat):List Value:=L.map fun (j:Nat)=>Value.int .i64 (j:Int)
theorem new_cells (u:World) (C:Array Value) (t:TypeId): ∀ j x,C.toList[j]? =some x->(u.alloc (.cells C t)).cell? ((⟨u.heap.size,0,none⟩:Addr).add j)=some x:=by
 intro j x hx
 rw [Addr.add_mid,Nat.zero_add]
 exact (Go.Joins.cell_of_block (own1 u (.cells C t)) j).trans (by simpa using hx)
theorem of_any (b:Nat) (T:Nat->Gr) (p:Int) (w:World) (h:IsTab E w b T) :
 Calls Tryz.prog 100 #[.pointer (some ⟨b,2,none⟩),.int .i64 p] w fun e w'=> ∃ v,e=.returned v/\w'.ownsRow w.heap.size 3 1 v (ofL T p 256).length (numV (ofL T p 256))/\bc w w':=by
 obtain ⟨i0,hi,hz0,hz1,hz2⟩:=info5 int_info5
 have TH:Hid (∀ (l:Gr) (W:World),Calls Tryz.prog 76 #[l.val] W fun e w'=>e=.returned (.bool l.is)/\w'=W.alloc (.cells l.enc.toArray 55)):=there_any
 have RG:Hid (w.rangeAt b 2 (flatT T 256)):=flat_range h
 have IK: ∀ (k:Nat),k<256-> ∀ (W:World),(Instr.index 56 (.agg (flatT T 256).toArray) (.int .i64 k)).run Tryz.prog W=.ok (.agg #[.int .i64 (T k).fr,.int .i64 (T k).pg,.int .i64 (T k).dst,.bool (T k).wr,.bool (T k).tk,.int .i64 (T k).att]) W:=fun k hk W=>ixk T k hk W
 have FL:Hid ((flatT T 256).length=1536):=flat_len T 256
 have fl:(flatT T 256).length=1536:=flat_len T 256
 clear h
 generalize hf:flatT T 256=FT at RG IK FL fl
 clear hf
 have HA:Hid ((Tryz.prog.info? 56).map (·.size)=some 1536):=all_info
 go_enter Tryz.func100,Tryz.ntmps100
 go_wp2_with (refine load_pat b 2 FT (.array 256 55) ?hx ?hc ?hu ?hd ?hi ?rest;(case hx=>rfl);(case hc=>exact RG.out);(case hu=>exact Tryz.underlying56);(case hd=>rfl);(case hi=>rw [FL.out];exact HA.out))
 go_loopw [5,12] (fun v x W=> ∃ k:Nat,k<=256/\x=.int .i64 k/\Hid (W.ownsRow w.heap.size 3 1 v (ofL T p k).length (numV (ofL T p k)))/\Hid (bc w W)) (fun _ x _=>256-(intOf x).toNat)
 case atStart=>exact ⟨0,by omega,rfl,⟨by simp [numV,ofL],Or.inl ⟨rfl,rfl⟩⟩,Below.refl _ _⟩
 case round =>
  obtain ⟨k,hk,rfl,O,B⟩:=hrel
  by_cases hlt:k<256
  . have hd:decide ((k:Int)<256)=true:=by simp;omega
    have LN:Hid ((ofL T p k).length<=256):=Nat.le_trans (of_len T p k) (by omega)
    have ik:=IK k hlt
    clear IK RG
    obtain ⟨l,h0⟩: ∃ l,T k=l:=⟨_,rfl⟩
    rw [h0] at ik
    have H0:Hid (T k=l):=h0
    have tl:=TH.out l
    have HO:Hid (ofP l p=(l.is && (l.fr==p || l.dst==p))):=rfl
    clear h0 TH
    obtain ⟨lf,lp,ld,lw,lt,la⟩:=l
    simp only [Gr.enc] at ik tl
    generalize Gr.is ⟨lf,lp,ld,lw,lt,la⟩=z at tl HO
    have TL:Hid _:=tl
    clear tl
    cases z
    . go_wp2_with fail
      refine (TL.out _).mono ?_
      rintro e u1 ⟨rfl,hu⟩
      have x0:u1.cell? ⟨wr.heap.size,0,none⟩=some (.int .i64 lf):=by rw [hu];simp
      have x2:u1.cell? ⟨wr.heap.size,2,none⟩=some (.int .i64 ld):=by rw [hu];simp
      have lx:wr.heap.size<u1.heap.size:=by rw [hu];simp only [World.size_alloc];omega
      have B1:Hid (bc w u1):=by rw [hu];exact below_new (below_new B.out _) _
      have O1:Hid (u1.ownsRow w.heap.size 3 1 u5 (ofL T p k).length (numV (ofL T p k))):=by rw [hu];exact own_keep O.out (Go.Joins.below_alloc2 _ _ _)
      clear hu O B TL
      go_wp2_with fail
      go_roundw
      case rel=>exact ⟨k+1,by omega,by go_num,(by rw [of_no T p k (by rw [H0.out];rw [HO.out];rfl)];exact O1.out),B1⟩
      case measure=>simp [intOf];omega
    . by_cases c:lf=p
      . have cb:(lf==p)=true:=by simp [c]
        have HY:Hid (ofP ⟨lf,lp,ld,lw,lt,la⟩ p=true):=by show _=_;rw [HO.out];simp [c]
        clear c
        go_wp2_with fail
        refine (TL.out _).mono ?_
        rintro e u1 ⟨rfl,hu⟩
        have x0:u1.cell? ⟨wr.heap.size,0,none⟩=some (.int .i64 lf):=by rw [hu];simp
        have x2:u1.cell? ⟨wr.heap.size,2,none⟩=some (.int .i64 ld):=by rw [hu];simp
        have lx:wr.heap.size<u1.heap.size:=by rw [hu];simp only [World.size_alloc];omega
        have B1:Hid (bc w u1):=by rw [hu];exact below_new (below_new B.out _) _
        have O1:Hid (u1.ownsRow w.heap.size 3 1 u5 (ofL T p k).length (numV (ofL T p k))):=by rw [hu];exact own_keep O.out (Go.Joins.below_alloc2 _ _ _)
        clear hu O B TL
        have OW:Hid ((u1.alloc (.cells #[.int .i64 k] 3)).ownsRow w.heap.size 3 1 u5 (ofL T p k).length (numV (ofL T p k))):=own_keep O1.out baa
        have NW:Hid (∀ j x,([.int .i64 k]:List Value)[j]? =some x->(u1.alloc (.cells #[.int .i64 k] 3)).cell? ((⟨u1.heap.size,0,none⟩:Addr).add j)=some x):=new_cells u1 #[.int .i64 k] 3
        have ON:Hid (∀ x∈([.int .i64 k]:List Value),x.oneCell'=true):=by show ∀ x∈([.int .i64 k]:List Value),x.oneCell'=true;simp [Value.oneCell']
        have HZ:Hid (w.heap.size<=(u1.alloc (.cells #[.int .i64 k] 3)).heap.size):=by show _<=_;rw [World.size_alloc];have:=B1.out.size;omega
        have MX:Hid ((ofL T p k).length+1<=maxLen):=by show _<=_;unfold maxLen;have:=LN.out;omega
        have BY:Hid (((ofL T p k).length+1)*8<=140737488355328):=by show _<=_;have:=LN.out;omega
        go_wp2_with (at_builtin;refine wpList_append_own _ rfl _ _ 41 rfl w.heap.size 3 i0 (.int .i64 0) 1 8 Tryz.underlying41 hi hz0 hz1 hz2 rfl kh u5 ((ofL T p k).length) (numV (ofL T p k)) rfl OW.out ⟨u1.heap.size,0,none⟩ 1 1 ([.int .i64 k]:List Value) rfl rfl NW.out ON.out MX.out BY.out HZ.out ?_;intro v1 a0 hown hg hnil;have O2:Hid (a0.ownsRow w.heap.size 3 1 v1 ((ofL T p k).length+1) (numV (ofL T p k)++[.int .i64 k])):=hown;have B2:Hid (bc w a0):=below_grown (below_new B1.out _) OW.out hg;clear hown hg hnil OW NW ON HZ MX BY)
        go_wp2_with fail
        go_roundw
        case rel=>exact ⟨k+1,by omega,by go_num,(by rw [of_yes T p k (by rw [H0.out];exact HY.out)];have:=O2.out;show World.ownsRow _ _ _ _ _ _ _;simpa [numV] using this),B2⟩
        case measure=>simp [intOf];omega
      . have cb:(lf==p)=false:=by simp [c]
        by_cases d:ld=p
        . have db:(ld==p)=true:=by simp [d]
          have HY:Hid (ofP ⟨lf,lp,ld,lw,lt,la⟩ p=true):=by show _=_;rw [HO.out];simp [d]
          clear d
          go_wp2_with fail
          refine (TL.out _).mono ?_
          rintro e u1 ⟨rfl,hu⟩
          have x0:u1.cell? ⟨wr.heap.size,0,none⟩=some (.int .i64 lf):=by rw [hu];simp
          have x2:u1.cell? ⟨wr.heap.size,2,none⟩=some (.int .i64 ld):=by rw [hu];simp
          have lx:wr.heap.size<u1.heap.size:=by rw [hu];simp only [World.size_alloc];omega
          have B1:Hid (bc w u1):=by rw [hu];exact below_new (below_new B.out _) _
          have O1:Hid (u1.ownsRow w.heap.size 3 1 u5 (ofL T p k).length (numV (ofL T p k))):=by rw [hu];exact own_keep O.out (Go.Joins.below_alloc2 _ _ _)
          clear hu O B TL
          have OW:Hid ((u1.alloc (.cells #[.int .i64 k] 3)).ownsRow w.heap.size 3 1 u5 (ofL T p k).length (numV (ofL T p k))):=own_keep O1.out baa
          have NW:Hid (∀ j x,([.int .i64 k]:List Value)[j]? =some x->(u1.alloc (.cells #[.int .i64 k] 3)).cell? ((⟨u1.heap.size,0,none⟩:Addr).add j)=some x):=new_cells u1 #[.int .i64 k] 3
          have ON:Hid (∀ x∈([.int .i64 k]:List Value),x.oneCell'=true):=by show ∀ x∈([.int .i64 k]:List Value),x.oneCell'=true;simp [Value.oneCell']
          have HZ:Hid (w.heap.size<=(u1.alloc (.cells #[.int .i64 k] 3)).heap.size):=by show _<=_;rw [World.size_alloc];have:=B1.out.size;omega
          have MX:Hid ((ofL T p k).length+1<=maxLen):=by show _<=_;unfold maxLen;have:=LN.out;omega
          have BY:Hid (((ofL T p k).length+1)*8<=140737488355328):=by show _<=_;have:=LN.out;omega
          go_wp2_with (at_builtin;refine wpList_append_own _ rfl _ _ 41 rfl w.heap.size 3 i0 (.int .i64 0) 1 8 Tryz.underlying41 hi hz0 hz1 hz2 rfl kh u5 ((ofL T p k).length) (numV (ofL T p k)) rfl OW.out ⟨u1.heap.size,0,none⟩ 1 1 ([.int .i64 k]:List Value) rfl rfl NW.out ON.out MX.out BY.out HZ.out ?_;intro v1 a0 hown hg hnil;have O2:Hid (a0.ownsRow w.heap.size 3 1 v1 ((ofL T p k).length+1) (numV (ofL T p k)++[.int .i64 k])):=hown;have B2:Hid (bc w a0):=below_grown (below_new B1.out _) OW.out hg;clear hown hg hnil OW NW ON HZ MX BY)
          go_wp2_with fail
          go_roundw
          case rel=>exact ⟨k+1,by omega,by go_num,(by rw [of_yes T p k (by rw [H0.out];exact HY.out)];have:=O2.out;show World.ownsRow _ _ _ _ _ _ _;simpa [numV] using this),B2⟩
          case measure=>simp [intOf];omega
        . have db:(ld==p)=false:=by simp [d]
          have HY:Hid (ofP ⟨lf,lp,ld,lw,lt,la⟩ p=false):=by show _=_;rw [HO.out];simp [c,d]
          go_wp2_with fail
          refine (TL.out _).mono ?_
          rintro e u1 ⟨rfl,hu⟩
          have x0:u1.cell? ⟨wr.heap.size,0,none⟩=some (.int .i64 lf):=by rw [hu];simp
          have x2:u1.cell? ⟨wr.heap.size,2,none⟩=some (.int .i64 ld):=by rw [hu];simp
          have lx:wr.heap.size<u1.heap.size:=by rw [hu];simp only [World.size_alloc];omega
          have B1:Hid (bc w u1):=by rw [hu];exact below_new (below_new B.out _) _
          have O1:Hid (u1.ownsRow w.heap.size 3 1 u5 (ofL T p k).length (numV (ofL T p k))):=by rw [hu];exact own_keep O.out (Go.Joins.below_alloc2 _ _ _)
          clear hu O B TL
          go_wp2_with fail
          go_roundw
          case rel=>exact ⟨k+1,by omega,by go_num,(by rw [of_no T p k (by rw [H0.out];exact HY.out)];exact O1.out),B1⟩
          case measure=>simp [intOf];omega
  . obtain rfl:k=256:=by omega
    go_wp2_with fail
    go_ret
    exact ⟨_,rfl,O.out,B.out⟩
end Go.Proofs.YtokpmclmdobgeaaGreat.Sh
namespace Go.Proofs.YtokpmclmdobgeaaGreat.Sh
variable {E:Value × Value × Value}
set_option maxRecDepth 8000
set_option maxRecDepth 8000
def IsRow (w:World) (base:Nat) (p:Option Addr) (L:List Nat):Prop:= ∀ i,i<L.length-> ∃ g,p=some ⟨g,0,none⟩/\base<=g/\g<w.heap.size/\w.cell? ⟨g,i,none⟩=some (.int .i64 (L.getD i 0:Nat))
theorem IsRow.below {w w':World} {base:Nat} {p:Option Addr} {L:List Nat} (h:IsRow w base p L) (hb:bc w w'):IsRow w' base p L:=fun i hi=>by
 obtain ⟨g,e,l1,l2,c⟩:=h i hi
 exact ⟨g,e,l1,nla l2 hb.size,(hb.cell (p:=⟨g,i,none⟩) l2).trans c⟩
theorem row_read {w:World} {base:Nat} {v:Value} {L:List Nat} (h:w.ownsRow base 3 1 v L.length (numV L)): ∃ p c,v=.slice p L.length c/\IsRow w base p L:=by
 obtain ⟨h1,h2 | ⟨g,cap,cur,e1,e2,e3,e4,e5,e6,e7⟩⟩:=h
 . refine ⟨none,0,by rw [h2.1,h2.2],fun i hi=> ?_⟩
   rw [h2.2] at hi;exact absurd hi (Nat.not_lt_zero _)
 . refine ⟨_,cap,e1,fun i hi=>⟨g,rfl,e2,(Array.getElem?_eq_some_iff.1 e3).1,?_⟩⟩
   rw [Go.Joins.cell_of_block e3 i]
   have:(cur.toList.take (L.length*1))[i]? =(numV L)[i]? :=by rw [e7]
   rw [List.getElem?_take,if_pos (by omega),Array.getElem?_toList] at this
   rw [this]
   unfold numV
   rw [List.getElem?_map,List.getElem?_eq_getElem hi]
   simp [List.getD,List.getElem?_eq_getElem hi]
theorem of_call (b:Nat) (T:Nat->Gr) (p:Int) (w:World) (h:IsTab E w b T) :
 Calls Tryz.prog 100 #[.pointer (some ⟨b,2,none⟩),.int .i64 p] w fun e w'=>(∃ q c,e=.returned (.slice q (ofL T p 256).length c)/\IsRow w' w.heap.size q (ofL T p 256))/\bc w w' :=
 (of_any b T p w h).mono fun e w' ⟨v,h1,h2,h3⟩=>by
  obtain ⟨q,c,rfl,h4⟩:=row_read h2
  exact ⟨⟨q,c,h1,h4⟩,h3⟩
theorem mem_of (T:Nat->Gr) (p:Int) (j:Nat): ∀ n,j∈ofL T p n↔j<n/\ofP (T j) p=true
 | 0 => by simp [ofL]
 | n + 1 => by
  rw [ofL,List.mem_append,mem_of T p j n]
  by_cases c:ofP (T n) p=true
  . rw [if_pos c,List.mem_singleton]
    constructor
    . rintro (h | h)
      . exact ⟨by omega,h.2⟩
      . subst h;exact ⟨by omega,c⟩
    . rintro ⟨h1,h2⟩
      by_cases d:j=n
      . exact Or.inr d
      . exact Or.inl ⟨by omega,h2⟩
  . rw [if_neg c]
    constructor
    . rintro (h | h)
      . exact ⟨by omega,h.2⟩
      . cases h
    . rintro ⟨h1,h2⟩
      by_cases d:j=n
      . subst d;exact absurd h2 c
      . exact Or.inl ⟨by omega,h2⟩
def clrL (T:Nat->Gr):List Nat->(Nat->Gr)
 | [] => T
 | i :: r => clrL (putT T i Gr.zero) r
def goneL (T:Nat->Gr):List Nat->List Gr
 | [] => []
 | i :: r => T i :: goneL (putT T i Gr.zero) r
theorem clr_snoc (x:Nat): ∀ (A:List Nat) (T:Nat->Gr),clrL T (A++[x])=putT (clrL T A) x Gr.zero
 | [], T => rfl
 | i :: r, T => clr_snoc x r _
theorem gone_snoc (x:Nat): ∀ (A:List Nat) (T:Nat->Gr),goneL T (A++[x])=goneL T A++[clrL T A x]
 | [], T => rfl
 | i :: r, T => by rw [List.cons_append, goneL, goneL, clrL, gone_snoc x r]; rfl
theorem gone_len: ∀ (A:List Nat) (T:Nat->Gr),(goneL T A).length=A.length
 | [], T => rfl
 | i :: r, T => by rw [goneL, List.length_cons, gone_len r, List.length_cons]
theorem own_weak {w:World} {base base' n e s:Nat} {v:Value} {xs:List Value} (h:w.ownsRow base e s v n xs) (hb:base'<=base):w.ownsRow base' e s v n xs:=by
 obtain ⟨h1,h2 | ⟨g,cap,cur,e1,e2,e3⟩⟩:=h
 . exact ⟨h1,Or.inl h2⟩
 . exact ⟨h1,Or.inr ⟨g,cap,cur,e1,Nat.le_trans hb e2,e3⟩⟩
theorem own_grown {w w':World} {base n e s b:Nat} {v:Value} {xs:List Value} (h:w.ownsRow base e s v n xs) (hg:w.grownBy w' (some b)) (hb:b<base):w'.ownsRow base e s v n xs:=by
 obtain ⟨h1,h2 | ⟨g,cap,cur,e1,e2,e3,e4⟩⟩:=h
 . exact ⟨h1,Or.inl h2⟩
 . exact ⟨h1,Or.inr ⟨g,cap,cur,e1,e2,(hg.block g (Array.getElem?_eq_some_iff.1 e3).1 (fun e=>by have:=sia e;omega)).trans e3,e4⟩⟩
theorem grown_own {u U a0:World} {b n e s:Nat} {v:Value} {xs:List Value} (h:u.grownBy U (some b)) (O:U.ownsRow u.heap.size e s v n xs) (hg:U.grownBy a0 v.ownBlock):u.grownBy a0 (some b) :=
 ⟨hg.os.trans h.os,hg.tape.trans h.tape,hg.output.trans h.output,Nat.le_trans h.size hg.size,fun j hj hne=>(hg.block j (nla hj h.size) (fun e=>by have:=own_base O j e.symm;omega)).trans (h.block j hj hne)⟩
theorem tab_same {w w':World} {b:Nat} {T:Nat->Gr} (h:IsTab E w b T) (hs:w.heap.size<=w'.heap.size) (e:w'.heap[b]? =w.heap[b]?):IsTab E w' b T:=by
 obtain ⟨h1,h2,h3,h4,h5⟩:=h
 refine ⟨fun i hi j v hv=> ?_,fun j hj=> ?_,nla h3 hs,fun j v hj=>(World.cell?_of_block (w:=w) (a:=⟨b,0+j,none⟩) e).trans (h4 j v hj),fun j v hj=>(World.cell?_of_block (w:=w) (a:=⟨b,1538+j,none⟩) e).trans (h5 j v hj)⟩
 . exact (World.cell?_of_block (w:=w) (a:=⟨b,2+i*6+j,none⟩) e).trans (h1 i hi j v hv)
 . have e1:w'.cell? ⟨b,2+j,none⟩=w.cell? ⟨b,2+j,none⟩:=World.cell?_of_block (w:=w) (a:=⟨b,2+j,none⟩) e
   have e2:w'.frozen? ⟨b,2+j,none⟩=w.frozen? ⟨b,2+j,none⟩:=World.frozen?_of_block (w:=w) (a:=⟨b,2+j,none⟩) e
   rw [e1,e2];exact h2 j hj
theorem tab_own {u U a0:World} {b n e s:Nat} {v:Value} {xs:List Value} {T:Nat->Gr} (h:IsTab E U b T) (hb:b<u.heap.size) (O:U.ownsRow u.heap.size e s v n xs) (hg:U.grownBy a0 v.ownBlock):IsTab E a0 b T :=
 tab_same h hg.size (hg.block b h.2.2.1 (fun e=>by have:=own_base O b e.symm;omega))
def encL (L:List Gr):List Value:=L.flatMap Gr.enc
theorem grant_info5:(Tryz.prog.info? 55).map (fun i=>(i.zero,i.size,i.bytes))=some (some (.agg sq1),6,40):=kc
theorem clear_any (b:Nat) (T:Nat->Gr) (p:Int) (w:World) (h:IsTab E w b T) :
 Calls Tryz.prog 106 #[.pointer (some ⟨b,2,none⟩),.int .i64 p] w fun e w'=> ∃ v,e=.returned v/\w'.ownsRow w.heap.size 55 6 v (ofL T p 256).length (encL (goneL T (ofL T p 256)))/\IsTab E w' b (clrL T (ofL T p 256))/\w.grownBy w' (some b):=by
 obtain ⟨i0,hi,hz0,hz1,hz2⟩:=info5 grant_info5
 have OF:Hid (∀ W:World,IsTab E W b T->Calls Tryz.prog 100 #[.pointer (some ⟨b,2,none⟩),.int .i64 p] W fun e w'=>(∃ q c,e=.returned (.slice q (ofL T p 256).length c)/\IsRow w' W.heap.size q (ofL T p 256))/\bc W w'):=fun W h=>of_call b T p W h
 have HT:Hid (IsTab E w b T):=h
 have hb:=h.2.2.1
 have LM:Hid (∀ k,k<(ofL T p 256).length->(ofL T p 256).getD k 0<256):=fun k hk=>by
  have:(ofL T p 256).getD k 0∈ofL T p 256:=by
   rw [List.getD,List.getElem?_eq_getElem hk];exact List.getElem_mem hk
  exact ((mem_of T p _ 256).1 this).1
 have LN:Hid ((ofL T p 256).length<=256):=of_len T p 256
 clear h
 generalize ofL T p 256=L at OF LM LN |-
 obtain ⟨N,hN⟩: ∃ N,L.length=N:=⟨_,rfl⟩
 have HN:Hid (L.length=N):=hN
 rw [hN] at OF LM LN |-
 have ln:N<=256:=LN.out
 clear hN
 go_enter Tryz.func106,Tryz.ntmps106
 go_wp2_with fail
 refine (OF.out _ HT.out).mono ?_
 rintro e u1 ⟨⟨q,c,rfl,hr⟩,hb1⟩
 have RW:Hid (IsRow u1 w.heap.size q L):=hr
 have B1:Hid (bc w u1):=hb1
 have T1:Hid (IsTab E u1 b T):=HT.out.below hb1
 have lb:b<u1.heap.size:=nla hb hb1.size
 clear hr hb1 OF
 go_wp2_with fail
 go_loopw [5,12] (fun v x W=> ∃ k:Nat,k<=N/\x=.int .i64 k/\Hid (W.ownsRow u1.heap.size 55 6 v k (encL (goneL T (L.take k))))/\Hid (IsTab E W b (clrL T (L.take k)))/\Hid (u1.grownBy W (some b))) (fun _ x _=>N-(intOf x).toNat)
 case atStart=>exact ⟨0,by omega,rfl,⟨by simp [encL,goneL],Or.inl ⟨rfl,rfl⟩⟩,T1.out,grown_refl _ _⟩
 case round =>
  obtain ⟨k,hk,rfl,O,TT,GG⟩:=hrel
  by_cases hlt:k<N
  . have hd:decide ((k:Int)<(N:Int))=true:=by simp;omega
    have k0:(0:Int)<=(k:Int):=by omega
    obtain ⟨g,rfl,lg1,lg2,cg⟩:=RW.out k (by rw [HN.out];exact hlt)
    have hm:=LM.out k hlt
    have HK:Hid (L.take (k+1)=L.take k++[L.getD k 0]):=by
     show _=_
     have hkl:k<L.length:=by rw [HN.out];exact hlt
     rw [List.take_add_one,List.getElem?_eq_getElem hkl,List.getD,List.getElem?_eq_getElem hkl];rfl
    generalize L.getD k 0=m at cg hm HK
    have cm:wr.cell? ⟨g,k,none⟩=some (.int .i64 m):=cell_grown GG.out lg2 (by omega) cg
    have lg:g<wr.heap.size:=nla lg2 GG.out.size
    have m0:(0:Int)<=(m:Int):=by omega
    have m6:(m:Int)<256:=by omega
    have lbw:b<wr.heap.size:=TT.out.2.2.1
    have XO:Hid (encL (goneL T (L.take (k+1)))=encL (goneL T (L.take k))++(clrL T (L.take k) m).enc):=by
     show _=_
     rw [HK.out,gone_snoc,encL,List.flatMap_append];simp [encL]
    have XT:Hid (clrL T (L.take (k+1))=putT (clrL T (L.take k)) m Gr.zero):=by show _=_;rw [HK.out,clr_snoc]
    generalize clrL T (L.take k)=TK at TT XO XT
    generalize encL (goneL T (L.take k))=EK at O XO
    obtain ⟨l,hl⟩: ∃ l,TK m=l:=⟨_,rfl⟩
    have c0:wr.cell? ⟨b,2+m*6,none⟩=some (.int .i64 l.fr):=TT.out.cell (m) (by omega) 0 _ ke _ (by omega)
    have c1:wr.cell? ⟨b,2+m*6+1,none⟩=some (.int .i64 l.pg):=TT.out.cell (m) (by omega) 1 _ ke _ (by omega)
    have c2:wr.cell? ⟨b,2+m*6+2,none⟩=some (.int .i64 l.dst):=TT.out.cell (m) (by omega) 2 _ ke _ (by omega)
    have c3:wr.cell? ⟨b,2+m*6+3,none⟩=some (.bool l.wr):=TT.out.cell (m) (by omega) 3 _ ke _ (by omega)
    have c4:wr.cell? ⟨b,2+m*6+4,none⟩=some (.bool l.tk):=TT.out.cell (m) (by omega) 4 _ ke _ (by omega)
    have c5:wr.cell? ⟨b,2+m*6+5,none⟩=some (.int .i64 l.att):=TT.out.cell (m) (by omega) 5 _ ke _ (by omega)
    have HL:Hid (TK m=l):=hl
    rw [hl] at XO
    clear hl
    obtain ⟨lf,lp,ld,lw,lt,la⟩:=l
    simp only [Gr.enc] at c0 c1 c2 c3 c4 c5 XO
    have OW:Hid ((wr.alloc (.cells (sb1 lf lp ld lw lt la) 55)).ownsRow u1.heap.size 55 6 u5 k EK):=own_keep O.out baa
    have NW:Hid (∀ j x,((sa1 lf lp ld lw lt la):List Value)[j]? =some x->(wr.alloc (.cells (sb1 lf lp ld lw lt la) 55)).cell? ((⟨wr.heap.size,0,none⟩:Addr).add j)=some x):=new_cells wr (sb1 lf lp ld lw lt la) 55
    have ON:Hid (∀ x∈((sa1 lf lp ld lw lt la):List Value),x.oneCell'=true):=by show ∀ x∈((sa1 lf lp ld lw lt la):List Value),x.oneCell'=true;simp [Value.oneCell']
    have HZ:Hid (u1.heap.size<=(wr.alloc (.cells (sb1 lf lp ld lw lt la) 55)).heap.size):=by show _<=_;rw [World.size_alloc];have:=GG.out.size;omega
    have MX:Hid (k+1<=maxLen):=by show _<=_;unfold maxLen;have:=LN.out;omega
    have BY:Hid ((k+1)*40<=140737488355328):=by show _<=_;have:=LN.out;omega
    have TA:Hid (IsTab E (wr.alloc (.cells (sb1 lf lp ld lw lt la) 55)) b TK):=TT.out.below baa
    have GA:Hid (u1.grownBy (wr.alloc (.cells (sb1 lf lp ld lw lt la) 55)) (some b)):=grown_new GG.out _
    clear O TT GG T1
    go_wp2_with (at_builtin;refine wpList_append_own _ rfl _ _ 177 rfl u1.heap.size 55 i0 (.agg sq1) 6 40 Tryz.underlying177 hi hz0 hz1 hz2 rfl kh u5 k EK rfl OW.out ⟨wr.heap.size,0,none⟩ 1 1 ((sa1 lf lp ld lw lt la):List Value) rfl rfl NW.out ON.out MX.out BY.out HZ.out ?_;intro v1 a0 hown hg hnil;have O2:Hid (a0.ownsRow u1.heap.size 55 6 v1 (k+1) (EK++(sa1 lf lp ld lw lt la))):=hown;have G2:Hid (u1.grownBy a0 (some b)):=(grown_own GA.out OW.out hg);have T2:Hid (IsTab E a0 b TK):=(tab_own TA.out lb OW.out hg);clear hown hg hnil OW NW ON HZ MX BY c0 c1 c2 c3 c4 c5 cm;have c0:a0.cell? ⟨b,2+m*6,none⟩=some (.int .i64 lf):=(T2.out.cell (m) (by omega) 0 _ ki _ (by omega));have c1:a0.cell? ⟨b,2+m*6+1,none⟩=some (.int .i64 lp):=(T2.out.cell (m) (by omega) 1 _ ki _ (by omega));have c2:a0.cell? ⟨b,2+m*6+2,none⟩=some (.int .i64 ld):=(T2.out.cell (m) (by omega) 2 _ ki _ (by omega));have c3:a0.cell? ⟨b,2+m*6+3,none⟩=some (.bool lw):=(T2.out.cell (m) (by omega) 3 _ ki _ (by omega));have c4:a0.cell? ⟨b,2+m*6+4,none⟩=some (.bool lt):=(T2.out.cell (m) (by omega) 4 _ ki _ (by omega));have c5:a0.cell? ⟨b,2+m*6+5,none⟩=some (.int .i64 la):=(T2.out.cell (m) (by omega) 5 _ ki _ (by omega));have g0:a0.frozen? ⟨b,2+m*6,none⟩=false:=(T2.out.unfrozen _ (by omega));have g1:a0.frozen? ⟨b,2+m*6+1,none⟩=false:=(T2.out.unfrozen _ (by omega));have g2:a0.frozen? ⟨b,2+m*6+2,none⟩=false:=(T2.out.unfrozen _ (by omega));have g3:a0.frozen? ⟨b,2+m*6+3,none⟩=false:=(T2.out.unfrozen _ (by omega));have g4:a0.frozen? ⟨b,2+m*6+4,none⟩=false:=(T2.out.unfrozen _ (by omega));have g5:a0.frozen? ⟨b,2+m*6+5,none⟩=false:=(T2.out.unfrozen _ (by omega)))
    go_wp2_with fail
    have T3:=T2.out.put m hm Gr.zero
    have G3:=grown_setCells b Gr.zero.enc (2+m*6) a0
    simp only [World.setCells,Gr.zero,Gr.enc] at T3 G3
    have O3:=own_grown O2.out G3 lb
    have G4:=grown_trans G2.out G3
    go_roundw
    case rel=>exact ⟨k+1,by omega,by go_num,(by rw [XO.out];exact O3),(by rw [XT.out];exact T3),G4⟩
    case measure=>simp [intOf];omega
  . obtain rfl:k=N:=by omega
    have hd:decide ((k:Int)<(k:Int))=false:=by simp
    have HK:Hid (L.take k=L):=by show _=_;rw [<- HN.out,List.take_length]
    go_wp2_with fail
    go_ret
    have e:=HK.out
    rw [e] at O TT
    exact ⟨_,rfl,own_weak O.out B1.out.size,TT.out,grown_trans (grown_of_below B1.out _) GG.out⟩
end Go.Proofs.YtokpmclmdobgeaaGreat.Sh
