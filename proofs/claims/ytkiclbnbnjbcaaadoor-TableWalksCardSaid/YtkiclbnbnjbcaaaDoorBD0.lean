import Derived.Test.YtkiclbnbnjbcaaaDoorChecked
import Derived.WalkKit
import Derived.ProofKit
import Derived.OpenShut
import Derived.Carry
import Derived.Lib.SmallJoins
import Derived.Deep.Light
import Derived.Deep.MidRow
import Derived.Deep.RegionHeld3
import Derived.Deep.DrawnRows
import Derived.Handy
import Derived.Laws.MakeOwn
import Derived.MapKept
import Derived.Laws.Tables
import Derived.Maps.OwnSet
import Derived.Maps.OwnOps
import Derived.Maps.AppendAt
import Derived.BigRegion
namespace Go.Proofs.YtkiclbnbnjbcaaaDoor.Bd
open Go.ChangeShapes Go.WideShapes Go.ChangeAt Go.RowKit Go.Maps
set_option linter.unusedSimpArgs false
set_option linter.unusedVariables false
set_option maxRecDepth 8000
theorem below_then {w x y:World} (h1:Below w.heap.size w x) (h2:Below x.heap.size x y):Below w.heap.size w y:=h1.trans (Go.Joins.below_le h2 h1.size)
theorem below_drew {n:Nat} {w W:World} (h:Below n w W):Below n w W.drew:=⟨h.os,h.tape,h.output,h.size,h.block⟩
theorem own1 (w:World) (o:Obj):(w.alloc o).heap[w.heap.size]? =some o:=(MapKept.heap_alloc w o).1
theorem blk_lt {w:World} {b:Nat} {o:Obj} (h:w.heap[b]? =some o):b<w.heap.size:=(Array.getElem?_eq_some_iff.1 h).1
theorem wf64 {k:Int} (h0: -9223372036854775808<=k) (h1:k<=9223372036854775807):(Lit.int .i64 k).wf=true:=by
 simp [Lit.wf,IntKind.min,IntKind.max,IntKind.signed,IntKind.bits];omega
theorem keyLaw:Keyed Tryd.prog 3:=int_keyed Tryd.underlying3
theorem zeroI (w:World):(zeroValue 3).run Tryd.prog w=.ok (.int .i64 0) w:=by kernel_rfl
def MapC (w:World) (b n c:Nat) (f:Int->Option Int):Prop :=
 ∃ D:DataW Unit,w.ownsMap Tryd.prog 3 (plainElem Tryd.prog 3) b n D/\Maps.size D=c/\ ∀ k,Maps.has D (.int .i64 k)=(f k).isSome/\D.atKey (.int .i64 k) (.lit (.int .i64 0))=.lit (.int .i64 ((f k).getD 0))
def setF (f:Int->Option Int) (k:Int) (o:Option Int):Int->Option Int:=fun j=>if j=k then o else f j
theorem set_same (f:Int->Option Int) (k:Int) (o:Option Int):setF f k o k=o:=if_pos rfl
theorem set_other (f:Int->Option Int) (k:Int) (o:Option Int) (j:Int) (h:j≠k):setF f k o j=f j:=if_neg h
def noneF:Int->Option Int:=fun _=>none
variable {w:World} {b n c:Nat} {f:Int->Option Int}
theorem MapC.look (h:MapC w b n c f) {k:Int} (hk:(Lit.int .i64 k).wf=true) :
 (Instr.lookup 108 (.map (some b)) (.int .i64 k) true).run Tryd.prog w=.ok (.tuple #[.int .i64 ((f k).getD 0),.bool (f k).isSome]) w:=by
 obtain ⟨D,hown,_,hD⟩:=h
 obtain ⟨v,ps,hrun,hv⟩:=hown.look_ok keyLaw Tryd.underlying108 (zeroI w) (plainElem_int Tryd.underlying3 (by decide)) (keyOf_int_mk Tryd.underlying3 hk)
 obtain ⟨x,rfl,hx,_⟩:=plainElem_int_inv Tryd.underlying3 hv
 have e:=congrArg Prod.fst hx
 simp only [(hD k).2] at e
 have e2:(f k).getD 0=x:=by simpa using e
 rw [hrun,(hD k).1,e2]
theorem MapC.set (h:MapC w b n c f) (hn:n<maxLen) {k v:Int} (hk:(Lit.int .i64 k).wf=true) (hv:(Lit.int .i64 v).wf=true) :
 ∃ w',(Instr.mapUpdate 108 (.map (some b)) (.int .i64 k) (.int .i64 v)).run Tryd.prog w=.ok () w'/\MapC w' b (n+1) (if (f k).isSome=true then c else c+1) (setF f k (some v))/\w.grownBy w' (some b):=by
 obtain ⟨D,hown,hc,hD⟩:=h
 have hkey:=keyOf_int_mk Tryd.underlying3 hk
 obtain ⟨w',hrun,hown',hg⟩:=hown.update keyLaw Tryd.underlying108 hn hkey (plainElem_int Tryd.underlying3 hv)
 refine ⟨w',hrun,⟨_,hown',?_,?_⟩,hg⟩
 . rw [Maps.size_put (hown.tidy keyLaw),(hD k).1,hc]
 . intro j
   by_cases e:j=k
   . subst e
     rw [set_same]
     exact ⟨Maps.has_put_same hown.isMap (by trivial) _,Maps.atKey_put_same hown.isMap (by trivial) _ _⟩
   . have ne:(Lit.int .i64 j)≠ .int .i64 k:=by intro q;cases q;exact e rfl
     rw [set_other _ _ _ _ e,Maps.has_put_other ne,Maps.atKey_put_other ne]
     exact hD j
theorem MapC.del (h:MapC w b n c f) {k:Int} (hk:(Lit.int .i64 k).wf=true) (ty:TypeId) :
 ∃ w',(Builtin.delete_ #[108,3] ty #[.map (some b),.int .i64 k]).run Tryd.prog w=.ok (.tuple #[]) w'/\(∃ c',MapC w' b n c' (setF f k none))/\w.grownBy w' (some b):=by
 obtain ⟨D,hown,hc,hD⟩:=h
 have hkey:=keyOf_int_mk Tryd.underlying3 hk
 obtain ⟨w',hrun,hown',ht⟩:=hown.drop keyLaw Tryd.underlying108 hkey ty
 refine ⟨w',hrun,⟨_,_,hown',rfl,?_⟩,ht.grown⟩
 intro j
 by_cases e:j=k
 . subst e
   rw [set_same]
   exact ⟨Maps.has_del_same,Maps.atKey_del_same _⟩
 . have ne:(Lit.int .i64 j)≠ .int .i64 k:=by intro q;cases q;exact e rfl
   rw [set_other _ _ _ _ e,Maps.has_del_other ne,Maps.atKey_del_other ne]
   exact hD j
theorem MapC.lt (h:MapC w b n c f):b<w.heap.size:=by obtain ⟨D,hown,_⟩:=h;exact hown.lt
theorem MapC.block {w':World} (h:MapC w b n c f) (hb:w'.heap[b]? =w.heap[b]?):MapC w' b n c f:=by
 obtain ⟨D,⟨es,clock,h1,r⟩,hD⟩:=h
 exact ⟨D,⟨es,clock,hb.trans h1,r⟩,hD⟩
theorem MapC.count (h:MapC w b n c f):c<=n:=by
 obtain ⟨D,hown,hc,_⟩:=h
 rw [<- hc];exact hown.size_le
abbrev Blk (w:World) (b:Nat) (C:List Value) (t:TypeId):Prop:=w.heap[b]? =some (.cells C.toArray t (0,0))
theorem Blk.cell {w:World} {b:Nat} {C:List Value} {t:TypeId} (h:Blk w b C t) (i:Nat):w.cell? ⟨b,i,none⟩=C[i]? :=by rw [Go.Joins.cell_of_block h i];simp
theorem Blk.free {w:World} {b:Nat} {C:List Value} {t:TypeId} (h:Blk w b C t) (i:Nat):w.frozen? ⟨b,i,none⟩=false:=Go.Joins.unfrozen_of_block h i
theorem Blk.below {w w':World} {b:Nat} {C:List Value} {t:TypeId} (h:Blk w b C t) (k:Below w.heap.size w w'):Blk w' b C t:=(k.block b (blk_lt h)).trans h
theorem Blk.set {w:World} {b:Nat} {C:List Value} {t:TypeId} (h:Blk w b C t) (i:Nat) (v:Value):Blk (w.setCell ⟨b,i,none⟩ v) b (C.set i v) t:=by
 unfold Blk
 rw [Go.Joins.block_setCell h];simp
structure Bl (w:World) (base b q mb n:Nat) (C:List Value) (sv:Value) (h:List Int) (F:Int->Option Int):Prop where
 blk:Blk w b C 113
 cm:C[q]? =some (.map (some mb))
 cs:C[q+1]? =some sv
 own:w.ownsRow base 3 1 sv h.length (h.map (Value.int .i64))
 mp:MapC w mb n n F
 ne:b≠mb
 nb: ∀ g,sv.ownBlock=some g->g≠b/\g≠mb
 lb:b<base/\mb<base
theorem row_keep {w w':World} {base n e s:Nat} {v:Value} {xs:List Value} (h:w.ownsRow base e s v n xs) (hb: ∀ g,v.ownBlock=some g->w'.heap[g]? =w.heap[g]?):w'.ownsRow base e s v n xs:=by
 obtain ⟨h1,h2⟩:=h
 refine ⟨h1,?_⟩
 rcases h2 with h2 | ⟨g',cap',cur,e1,e2,e3,e4⟩
 . exact Or.inl h2
 . exact Or.inr ⟨g',cap',cur,e1,e2,(hb g' (by rw [e1];rfl)).trans e3,e4⟩
theorem Bl.below {w w':World} {base b q mb n:Nat} {C:List Value} {sv:Value} {h:List Int} {F:Int->Option Int} (H:Bl w base b q mb n C sv h F) (hb:Below w.heap.size w w'):Bl w' base b q mb n C sv h F:=by
 have hc:=H.mp
 refine ⟨H.blk.below hb,H.cm,H.cs,row_keep H.own (fun g e=>hb.block g ?_),hc.block (hb.block mb hc.lt),H.ne,H.nb,H.lb⟩
 obtain ⟨_,⟨rfl,_⟩ | ⟨g',cap',cur,rfl,e2,e3,e4⟩⟩:=H.own
 . cases e
 . cases e;exact blk_lt e3
theorem Bl.read {w:World} {base b q mb n:Nat} {C:List Value} {sv:Value} {h:List Int} {F:Int->Option Int} (H:Bl w base b q mb n C sv h F): ∃ p c,sv=.slice p h.length c/\ ∀ i (hi:i<h.length),∃ g,p=some ⟨g,0,none⟩/\base<=g/\g<w.heap.size/\w.cell? ⟨g,i,none⟩=some (.int .i64 h[i]):=by
 have O:=H.own
 have hc:=fun g (hg:sv.ownBlock=some g)=>World.ownsRow.cells (g:=g) O hg
 obtain ⟨hl,⟨hv,h0⟩ | ⟨g,cap,cur,hv,hb,hblk,_⟩⟩:=O
 . exact ⟨Option.none,0,by rw [hv,h0],fun i hi=>absurd hi (by omega)⟩
 . refine ⟨_,_,hv,fun i hi=>⟨g,rfl,hb,blk_lt hblk,?_⟩⟩
   have:=hc g (by rw [hv];rfl) i (.int .i64 h[i]) (by rw [List.getElem?_map,List.getElem?_eq_getElem hi];rfl)
   rw [Addr.add_mid,Nat.zero_add] at this;exact this
theorem len_any (base b q mb n:Nat) (C:List Value) (sv:Value) (h:List Int) (F:Int->Option Int) (w:World) (H:Bl w base b q mb n C sv h F) :
 Calls Tryd.prog 44 #[.pointer (some ⟨b,q,none⟩)] w fun e w'=>e=.returned (.int .i64 h.length)/\w'=w:=by
 obtain ⟨p,c,hv,_⟩:=H.read
 have c1:w.cell? ⟨b,q+1,none⟩=some (.slice p h.length c):=by rw [H.blk.cell,H.cs,hv]
 have lb:=blk_lt H.blk
 clear H hv
 go_enter Tryd.func44,Tryd.ntmps44
 go_wp2_with fail
 go_ret
 exact ⟨rfl,rfl⟩
theorem less_any (base b q mb n:Nat) (C:List Value) (sv:Value) (h:List Int) (F:Int->Option Int) (i j:Nat) (hi:i<h.length) (hj:j<h.length) (w:World) (H:Bl w base b q mb n C sv h F) :
 Calls Tryd.prog 115 #[.pointer (some ⟨b,q,none⟩),.int .i64 i,.int .i64 j] w fun e w'=>e=.returned (.bool (decide (h[i]<h[j])))/\Below w.heap.size w w':=by
 obtain ⟨p,c,hv,rd⟩:=H.read
 obtain ⟨g,rfl,bg,lg,ri⟩:=rd i hi
 obtain ⟨g',e',_,_,rj⟩:=rd j hj
 cases e'
 have c1:w.cell? ⟨b,q+1,none⟩=some (.slice (some ⟨g,0,none⟩) h.length c):=by rw [H.blk.cell,H.cs,hv]
 have lb:=blk_lt H.blk
 obtain ⟨n0,hn0⟩: ∃ n0,n0=h.length:=⟨_,rfl⟩
 rw [<- hn0] at c1 hi hj
 have i0:decide ((i:Int)<0)=false:=by simp
 have j0:decide ((j:Int)<0)=false:=by simp
 have i1:decide ((i:Int)<(n0:Int))=true:=by simp;omega
 have j1:decide ((j:Int)<(n0:Int))=true:=by simp;omega
 generalize h[i]=x at ri |-
 generalize h[j]=y at rj |-
 clear H hv rd hn0
 go_enter Tryd.func115,Tryd.ntmps115
 go_wp2_with fail
 go_region
 all_goals (try go_wp2_with fail)
 all_goals go_ret
 all_goals exact ⟨rfl,below_drew (Below.refl _ _)⟩
end Go.Proofs.YtkiclbnbnjbcaaaDoor.Bd
