import Derived.Test.YtgbdnnkkcpkhdaaGreatDoorKZc
import Derived.Test.YtgbdnnkkcpkhdaaGreatDoorChecked
import Derived.WalkKit
import Derived.ProofKit
import Derived.OpenShut
import Derived.Carry
import Derived.Lib.SmallJoins
import Derived.Deep.Light
import Derived.Deep.MidRow
import Derived.Deep.RegionHeld3
import Derived.Deep.DrawnRows
import Derived.Handy
import Derived.Laws.MakeOwn
import Derived.MapKept
import Derived.Laws.Tables
import Derived.Maps.OwnSet
import Derived.Maps.OwnOps
import Derived.Maps.AppendAt
import Derived.BigRegion
import Derived.Deep.DeepCutAuto
import Derived.WalkSmall
set_option linter.unusedSimpArgs false
set_option linter.unusedVariables false
set_option maxRecDepth 8000
set_option maxHeartbeats 4000000
open Go.ChangeShapes Go.WideShapes Go.ChangeAt Go.RowKit Go.Maps
namespace Go.Proofs.YtgbdnnkkcpkhdaaGreatDoor.Bd
theorem below_then {w x y:World} (h1:bc w x) (h2:bc x y):bc w y:=h1.trans (Go.Joins.below_le h2 h1.size)
theorem below_drew {n:Nat} {w W:World} (h:Below n w W):Below n w W.drew:=⟨h.os,h.tape,h.output,h.size,h.block⟩
theorem own1 (w:World) (o:Obj):(w.alloc o).heap[w.heap.size]? =some o:=(MapKept.heap_alloc w o).1
theorem blk_lt {w:World} {b:Nat} {o:Obj} (h:w.heap[b]? =some o):b<w.heap.size:=(Array.getElem?_eq_some_iff.1 h).1
theorem wf64 {k:Int} (h0: -9223372036854775808<=k) (h1:k<=9223372036854775807):(Lit.int .i64 k).wf=true:=by
 simp [Lit.wf,IntKind.min,IntKind.max,IntKind.signed,IntKind.bits];omega
theorem keyLaw:Keyed Tryz.prog 3:=int_keyed Tryz.underlying3
theorem zeroI (w:World):(zeroValue 3).run Tryz.prog w=.ok (.int .i64 0) w:=ka
def MapC (w:World) (b n c:Nat) (f:Int->Option Int):Prop :=
 ∃ D:DataW Unit,w.ownsMap Tryz.prog 3 (plainElem Tryz.prog 3) b n D/\Maps.size D=c/\ ∀ k,Maps.has D (.int .i64 k)=(f k).isSome/\D.atKey (.int .i64 k) (.lit (.int .i64 0))=.lit (.int .i64 ((f k).getD 0))
def setF (f:Int->Option Int) (k:Int) (o:Option Int):Int->Option Int:=fun j=>if j=k then o else f j
theorem set_same (f:Int->Option Int) (k:Int) (o:Option Int):setF f k o k=o:=if_pos rfl
theorem set_other (f:Int->Option Int) (k:Int) (o:Option Int) (j:Int) (h:j≠k):setF f k o j=f j:=if_neg h
def noneF:Int->Option Int:=fun _=>none
variable {w:World} {b n c:Nat} {f:Int->Option Int}
theorem MapC.look (h:MapC w b n c f) {k:Int} (hk:(Lit.int .i64 k).wf=true) :
 (Instr.lookup 31 (.map (some b)) (.int .i64 k) true).run Tryz.prog w=.ok (.tuple #[.int .i64 ((f k).getD 0),.bool (f k).isSome]) w:=by
 obtain ⟨D,hown,_,hD⟩:=h
 obtain ⟨v,ps,hrun,hv⟩:=hown.look_ok keyLaw Tryz.underlying31 (zeroI w) (plainElem_int Tryz.underlying3 (by decide)) (keyOf_int_mk Tryz.underlying3 hk)
 obtain ⟨x,rfl,hx,_⟩:=plainElem_int_inv Tryz.underlying3 hv
 have e:=congrArg Prod.fst hx
 simp only [(hD k).2] at e
 have e2:(f k).getD 0=x:=by simpa using e
 rw [hrun,(hD k).1,e2]
theorem MapC.set (h:MapC w b n c f) (hn:n<maxLen) {k v:Int} (hk:(Lit.int .i64 k).wf=true) (hv:(Lit.int .i64 v).wf=true) :
 ∃ w',(Instr.mapUpdate 31 (.map (some b)) (.int .i64 k) (.int .i64 v)).run Tryz.prog w=.ok () w'/\MapC w' b (n+1) (if (f k).isSome=true then c else c+1) (setF f k (some v))/\w.grownBy w' (some b):=by
 obtain ⟨D,hown,hc,hD⟩:=h
 have hkey:=keyOf_int_mk Tryz.underlying3 hk
 obtain ⟨w',hrun,hown',hg⟩:=hown.update keyLaw Tryz.underlying31 hn hkey (plainElem_int Tryz.underlying3 hv)
 refine ⟨w',hrun,⟨_,hown',?_,?_⟩,hg⟩
 . rw [Maps.size_put (hown.tidy keyLaw),(hD k).1,hc]
 . intro j
   by_cases e:j=k
   . subst e
     rw [set_same]
     exact ⟨Maps.has_put_same hown.isMap (by trivial) _,Maps.atKey_put_same hown.isMap (by trivial) _ _⟩
   . have ne:(Lit.int .i64 j)≠ .int .i64 k:=by intro q;cases q;exact e rfl
     rw [set_other _ _ _ _ e,Maps.has_put_other ne,Maps.atKey_put_other ne]
     exact hD j
theorem MapC.del (h:MapC w b n c f) {k:Int} (hk:(Lit.int .i64 k).wf=true) (ty:TypeId) :
 ∃ w',(Builtin.delete_ #[31,3] ty #[.map (some b),.int .i64 k]).run Tryz.prog w=.ok (.tuple #[]) w'/\(∃ c',MapC w' b n c' (setF f k none))/\w.grownBy w' (some b):=by
 obtain ⟨D,hown,hc,hD⟩:=h
 have hkey:=keyOf_int_mk Tryz.underlying3 hk
 obtain ⟨w',hrun,hown',ht⟩:=hown.drop keyLaw Tryz.underlying31 hkey ty
 refine ⟨w',hrun,⟨_,_,hown',rfl,?_⟩,ht.grown⟩
 intro j
 by_cases e:j=k
 . subst e
   rw [set_same]
   exact ⟨Maps.has_del_same,Maps.atKey_del_same _⟩
 . have ne:(Lit.int .i64 j)≠ .int .i64 k:=by intro q;cases q;exact e rfl
   rw [set_other _ _ _ _ e,Maps.has_del_other ne,Maps.atKey_del_other ne]
   exact hD j
theorem MapC.lt (h:MapC w b n c f):b<w.heap.size:=by obtain ⟨D,hown,_⟩:=h;exact hown.lt
theorem MapC.block {w':World} (h:MapC w b n c f) (hb:w'.heap[b]? =w.heap[b]?):MapC w' b n c f:=by
 obtain ⟨D,⟨es,clock,h1,r⟩,hD⟩:=h
 exact ⟨D,⟨es,clock,hb.trans h1,r⟩,hD⟩
theorem MapC.count (h:MapC w b n c f):c<=n:=by
 obtain ⟨D,hown,hc,_⟩:=h
 rw [<- hc];exact hown.size_le
def MapI (w:World) (b n:Nat) (f:Int->Option Int):Prop:= ∃ c,MapC w b n c f
abbrev Blk (w:World) (b:Nat) (C:List Value) (t:TypeId):Prop:=w.heap[b]? =some (.cells C.toArray t (0,0))
theorem Blk.cell {w:World} {b:Nat} {C:List Value} {t:TypeId} (h:Blk w b C t) (i:Nat):w.cell? ⟨b,i,none⟩=C[i]? :=by rw [Go.Joins.cell_of_block h i];simp
theorem Blk.free {w:World} {b:Nat} {C:List Value} {t:TypeId} (h:Blk w b C t) (i:Nat):w.frozen? ⟨b,i,none⟩=false:=Go.Joins.unfrozen_of_block h i
theorem Blk.below {w w':World} {b:Nat} {C:List Value} {t:TypeId} (h:Blk w b C t) (k:bc w w'):Blk w' b C t:=(k.block b (blk_lt h)).trans h
theorem Blk.set {w:World} {b:Nat} {C:List Value} {t:TypeId} (h:Blk w b C t) (i:Nat) (v:Value):Blk (w.setCell ⟨b,i,none⟩ v) b (C.set i v) t:=by
 unfold Blk
 rw [Go.Joins.block_setCell h];simp
structure Bl (w:World) (base b q mb n:Nat) (C:List Value) (sv:Value) (h:List Int) (F:Int->Option Int):Prop where
 blk:Blk w b C 190
 cm:C[q]? =some (.map (some mb))
 cs:C[q+1]? =some sv
 own:w.ownsRow base 3 1 sv h.length (h.map (Value.int .i64))
 mp:MapC w mb n n F
 ne:b≠mb
 nb: ∀ g,sv.ownBlock=some g->g≠b/\g≠mb
 lb:b<base/\mb<base
theorem row_keep {w w':World} {base n e s:Nat} {v:Value} {xs:List Value} (h:w.ownsRow base e s v n xs) (hb: ∀ g,v.ownBlock=some g->w'.heap[g]? =w.heap[g]?):w'.ownsRow base e s v n xs:=by
 obtain ⟨h1,h2⟩:=h
 refine ⟨h1,?_⟩
 rcases h2 with h2 | ⟨g',cap',cur,e1,e2,e3,e4⟩
 . exact Or.inl h2
 . exact Or.inr ⟨g',cap',cur,e1,e2,(hb g' (by rw [e1];rfl)).trans e3,e4⟩
theorem Bl.below {w w':World} {base b q mb n:Nat} {C:List Value} {sv:Value} {h:List Int} {F:Int->Option Int} (H:Bl w base b q mb n C sv h F) (hb:bc w w'):Bl w' base b q mb n C sv h F:=by
 have hc:=H.mp
 refine ⟨H.blk.below hb,H.cm,H.cs,row_keep H.own (fun g e=>hb.block g ?_),hc.block (hb.block mb hc.lt),H.ne,H.nb,H.lb⟩
 obtain ⟨_,⟨rfl,_⟩ | ⟨g',cap',cur,rfl,e2,e3,e4⟩⟩:=H.own
 . cases e
 . cases e;exact blk_lt e3
theorem Bl.read {w:World} {base b q mb n:Nat} {C:List Value} {sv:Value} {h:List Int} {F:Int->Option Int} (H:Bl w base b q mb n C sv h F): ∃ p c,sv=.slice p h.length c/\ ∀ i (hi:i<h.length),∃ g,p=some ⟨g,0,none⟩/\base<=g/\g<w.heap.size/\w.cell? ⟨g,i,none⟩=some (.int .i64 h[i]):=by
 have O:=H.own
 have hc:=fun g (hg:sv.ownBlock=some g)=>World.ownsRow.cells (g:=g) O hg
 obtain ⟨hl,⟨hv,h0⟩ | ⟨g,cap,cur,hv,hb,hblk,_⟩⟩:=O
 . exact ⟨Option.none,0,by rw [hv,h0],fun i hi=>absurd hi (by omega)⟩
 . refine ⟨_,_,hv,fun i hi=>⟨g,rfl,hb,blk_lt hblk,?_⟩⟩
   have:=hc g (by rw [hv];rfl) i (.int .i64 h[i]) (by rw [List.getElem?_map,List.getElem?_eq_getElem hi];rfl)
   rw [Addr.add_mid,Nat.zero_add] at this;exact this
theorem len_any (base b q mb n:Nat) (C:List Value) (sv:Value) (h:List Int) (F:Int->Option Int) (w:World) (H:Bl w base b q mb n C sv h F) :
 Calls Tryz.prog 85 #[.pointer (some ⟨b,q,none⟩)] w fun e w'=>e=.returned (.int .i64 h.length)/\w'=w:=by
 obtain ⟨p,c,hv,_⟩:=H.read
 have c1:w.cell? ⟨b,q+1,none⟩=some (.slice p h.length c):=by rw [H.blk.cell,H.cs,hv]
 have lb:=blk_lt H.blk
 clear H hv
 go_enter Tryz.func85,Tryz.ntmps85
 go_wp2_with fail
 go_ret
 exact ⟨rfl,rfl⟩
theorem less_any (base b q mb n:Nat) (C:List Value) (sv:Value) (h:List Int) (F:Int->Option Int) (i j:Nat) (hi:i<h.length) (hj:j<h.length) (w:World) (H:Bl w base b q mb n C sv h F) :
 Calls Tryz.prog 177 (sf (.pointer (some ⟨b,q,none⟩)) i j) w (re (.bool (decide (h[i]<h[j]))) w):=by
 obtain ⟨p,c,hv,rd⟩:=H.read
 obtain ⟨g,rfl,bg,lg,ri⟩:=rd i hi
 obtain ⟨g',e',_,_,rj⟩:=rd j hj
 cases e'
 have c1:w.cell? ⟨b,q+1,none⟩=some (.slice (some ⟨g,0,none⟩) h.length c):=by rw [H.blk.cell,H.cs,hv]
 have lb:=blk_lt H.blk
 obtain ⟨n0,hn0⟩: ∃ n0,n0=h.length:=⟨_,rfl⟩
 rw [<- hn0] at c1 hi hj
 have i0:decide ((i:Int)<0)=false:=by simp
 have j0:decide ((j:Int)<0)=false:=by simp
 have i1:decide ((i:Int)<(n0:Int))=true:=kh
 have j1:decide ((j:Int)<(n0:Int))=true:=kh
 generalize h[i]=x at ri |-
 generalize h[j]=y at rj |-
 clear H hv rd hn0
 go_enter Tryz.func177,Tryz.ntmps177
 go_wp2_with fail
 go_region
 all_goals (try go_wp2_with fail)
 all_goals go_ret
 all_goals exact ⟨rfl,below_drew (Below.refl _ _)⟩
end Go.Proofs.YtgbdnnkkcpkhdaaGreatDoor.Bd
namespace Go.Proofs.YtgbdnnkkcpkhdaaGreatDoor.Bd
theorem modify_same {α :Type} (es:Array α) (j:Nat) (f: α -> α) (h: ∀ e,es[j]? =some e->f e=e):es.modify j f=es:=by
 apply Array.ext
 . simp
 . intro i h1 h2
   rw [Array.getElem_modify]
   split
   . rename_i e
     subst e
     exact h _ (Array.getElem?_eq_getElem h2)
   . rfl
theorem modify_eq {α :Type} (es:Array α) (j:Nat) (f g: α -> α) (h: ∀ e,es[j]? =some e->f e=g e):es.modify j f=es.modify j g:=by
 apply Array.ext
 . simp
 . intro i h1 h2
   have h3:i<es.size:=by simpa using h1
   rw [Array.getElem_modify,Array.getElem_modify]
   split
   . rename_i e
     subst e
     exact h _ (Array.getElem?_eq_getElem h3)
   . rfl
theorem set_same_heap (w:World) (b:Nat) (o:Obj) (h:w.heap[b]? =some o):({ w with heap:=w.heap.setIfInBounds b o }:World)=w:=by
 have:w.heap.setIfInBounds b o=w.heap:=by
  apply Array.ext
  . simp
  . intro i h1 h2
    rw [Array.getElem_setIfInBounds]
    split
    . rename_i e
      subst e
      rw [Array.getElem?_eq_getElem h2] at h
      exact (sia h).symm
    . rfl
 rw [this]
theorem born_idx {es:Array MapEntry} {clock:Nat} (hs:MapKept.Stamped es clock) {j:Nat} {e:MapEntry} (hj:es[j]? =some e):es.findIdx? (fun x=>(x.born:Int)==(e.born:Int))=some j:=by
 have hl:j<es.size:=(Array.getElem?_eq_some_iff.1 hj).1
 have hj':es[j]=e:=(Array.getElem?_eq_some_iff.1 hj).2
 rw [Array.findIdx?_eq_some_iff_getElem]
 refine ⟨hl,by rw [hj'];simp,?_⟩
 intro k hk
 have hk2:k<es.size:=by omega
 have nd:=((MapKept.stamped_iff es clock).1 hs).2.1
 intro q
 have q1:es[k].born=e.born:=by
  have:((es[k].born:Nat):Int)=(e.born:Int):=by simpa using q
  omega
 have a1:(es.toList.map (·.born))[k]'(by simpa using hk2)=es[k].born:=by simp
 have a2:(es.toList.map (·.born))[j]'(by simpa using hl)=e.born:=by simp [hj']
 have pw:=List.pairwise_iff_getElem.1 nd k j (by simpa using hk2) (by simpa using hl) hk
 exact pw (a1.trans (q1.trans a2.symm))
theorem MapC.entry {w:World} {b n c:Nat} {f:Int->Option Int} (h:MapC w b n c f) {k:Int} (hk:(Lit.int .i64 k).wf=true) (hf:(f k).isSome=true) :
 ∃ (v:Value) (s:Int),(Instr.mapEntry 31 (.map (some b)) (.int .i64 k)).run Tryz.prog w=.ok (.tuple #[v,.int .i64 s]) w /\
  ∀ val:Value,(Instr.entryStore 31 (.map (some b)) (.int .i64 s) val).run Tryz.prog w=(Instr.mapUpdate 31 (.map (some b)) (.int .i64 k) val).run Tryz.prog w:=by
 have lk:=h.look hk
 rw [hf] at lk
 obtain ⟨D,⟨es,clock,hb,F,hs,rfl⟩,hc,hD⟩:=h
 have hkey:keyOf Tryz.prog 3 (.int .i64 k)=some (.int .i64 k):=keyOf_int_mk Tryz.underlying3 hk
 have hm:=Tryz.underlying31
 have ck:=fun e=>keyLaw.check w e hkey
 rcases keyLaw.find w hkey es.toList F.keys with ⟨hr,hne⟩ | ⟨j,e,hr,hj,he⟩
 . exfalso
   simp [Instr.lookup,run_underlying hm,MapKept.run_getObj_map hb,ck,hr,zeroI,Result.andThen] at lk
 . have hj':es[j]? =some e:=by simpa using hj
   refine ⟨e.val,e.born,?_,fun val=> ?_⟩
   . have st:=keyLaw.stays w hkey
     simp [Instr.mapEntry,run_underlying hm,MapKept.run_getObj_map hb,ck,hr,hj',he,st,MapKept.run_setObj_map _ hb,Result.andThen,goInt]
     rw [modify_same es j _ (fun e' h'=>by rw [hj'] at h';cases h';rw [<- he])]
     exact set_same_heap w b _ hb
   . have st:=keyLaw.stays w hkey
     have ix:=born_idx F.stamped hj'
     simp [Instr.mapUpdate,Instr.entryStore,run_underlying hm,MapKept.run_getObj_map hb,ck,hr,hj',he,st,MapKept.run_setObj_map _ hb,Result.andThen,asInt,asIntOf,ix]
     rw [modify_eq es j (fun e'=>{ key:=e'.key,val:=val,born:=e'.born }) (fun e=>{ key:=.int .i64 k,val:=val,born:=e.born }) (fun e' h'=>by rw [hj'] at h';cases h';simp [he])]
theorem swap_walk (b q mb g c n0 i j:Nat) (x y:Int) (w w2 w3:World) (c0:w.cell? ⟨b,q,none⟩=some (.map (some mb))) (c1:w.cell? ⟨b,q+1,none⟩=some (.slice (some ⟨g,0,none⟩) n0 c)) (ri:w.cell? ⟨g,i,none⟩=some (.int .i64 x)) (rj:w.cell? ⟨g,j,none⟩=some (.int .i64 y))
 (fi:w.frozen? ⟨g,i,none⟩=false) (fj:w.frozen? ⟨g,j,none⟩=false) (hi:i<n0) (hj:j<n0) (ne:i≠j) (lg:g<w.heap.size) (lb:b<w.heap.size) (gb:g≠b) (v1 v2:Value) (s1 s2:Int)
 (r1:(Instr.mapEntry 31 (.map (some mb)) (.int .i64 y)).run Tryz.prog ((w.setCell ⟨g,i,none⟩ (.int .i64 y)).setCell ⟨g,j,none⟩ (.int .i64 x)).drew.drew=.ok (.tuple #[v1,.int .i64 s1]) ((w.setCell ⟨g,i,none⟩ (.int .i64 y)).setCell ⟨g,j,none⟩ (.int .i64 x)).drew.drew)
 (e1:(Instr.entryStore 31 (.map (some mb)) (.int .i64 s1) (.int .i64 i)).run Tryz.prog ((w.setCell ⟨g,i,none⟩ (.int .i64 y)).setCell ⟨g,j,none⟩ (.int .i64 x)).drew.drew=.ok () w2)
 (r2:(Instr.mapEntry 31 (.map (some mb)) (.int .i64 x)).run Tryz.prog w2=.ok (.tuple #[v2,.int .i64 s2]) w2)
 (e2:(Instr.entryStore 31 (.map (some mb)) (.int .i64 s2) (.int .i64 j)).run Tryz.prog w2=.ok () w3) :
 Calls Tryz.prog 180 (sf (.pointer (some ⟨b,q,none⟩)) i j) w fun e w'=>e=.returned (.tuple #[])/\w'=w3:=by
 have i0:decide ((i:Int)<0)=false:=by simp
 have j0:decide ((j:Int)<0)=false:=by simp
 have i1:decide ((i:Int)<(n0:Int))=true:=kh
 have j1:decide ((j:Int)<(n0:Int))=true:=kh
 have gb':b≠g:=fun e=>gb e.symm
 have ne':j≠i:=fun e=>ne e.symm
 have R1:Hid _:=r1
 have E1:Hid _:=e1
 clear r1 e1
 go_enter Tryz.func180,Tryz.ntmps180
 go_wp2_with fail
 go_upto_region 0 with fail
 go_cut [] (fun wx=>Hid (wx=((w.setCell ⟨g,i,none⟩ (.int .i64 y)).setCell ⟨g,j,none⟩ (.int .i64 x)).drew))
 case first =>
  go_region
  all_goals (try go_wp2_with fail)
  all_goals go_meet
  all_goals rfl
 have hw:=hcut.out
 have d0:wc.cell? ⟨b,q,none⟩=some (.map (some mb)):=by rw [hw];show (((w.setCell ⟨g,i,none⟩ (.int .i64 y)).setCell ⟨g,j,none⟩ (.int .i64 x))).cell? ⟨b,q,none⟩=_;rw [World.cell?_setCell_other _ _ _ _ (by intro h;cases h;exact gb rfl),World.cell?_setCell_other _ _ _ _ (by intro h;cases h;exact gb rfl)];exact c0
 have d1:wc.cell? ⟨b,q+1,none⟩=some (.slice (some ⟨g,0,none⟩) n0 c):=by rw [hw];show (((w.setCell ⟨g,i,none⟩ (.int .i64 y)).setCell ⟨g,j,none⟩ (.int .i64 x))).cell? ⟨b,q+1,none⟩=_;rw [World.cell?_setCell_other _ _ _ _ (by intro h;cases h;exact gb rfl),World.cell?_setCell_other _ _ _ _ (by intro h;cases h;exact gb rfl)];exact c1
 have di:wc.cell? ⟨g,i,none⟩=some (.int .i64 y):=by
  rw [hw];show (((w.setCell ⟨g,i,none⟩ (.int .i64 y)).setCell ⟨g,j,none⟩ (.int .i64 x))).cell? ⟨g,i,none⟩=_
  rw [World.cell?_setCell_other _ _ _ _ (by intro h;cases h;exact ne rfl)]
  exact World.cell?_setCell_same _ _ _ ri
 have dj:wc.cell? ⟨g,j,none⟩=some (.int .i64 x):=by
  rw [hw];show (((w.setCell ⟨g,i,none⟩ (.int .i64 y)).setCell ⟨g,j,none⟩ (.int .i64 x))).cell? ⟨g,j,none⟩=_
  exact World.cell?_setCell_same _ _ _ (u:=.int .i64 y) (by rw [World.cell?_setCell_other _ _ _ _ (by intro h;cases h;exact ne rfl)];exact rj)
 have lb2:b<wc.heap.size:=by rw [hw];simpa using lb
 have lg2:g<wc.heap.size:=by rw [hw];simpa using lg
 have r1:=R1.out
 have e1:=E1.out
 rw [<- hw] at r1 e1
 clear hw hcut R1 E1 c0 c1 ri rj fi fj lg lb
 go_upto_region 1 with fail
 go_region
 all_goals (try go_wp2_with fail)
 all_goals go_end0
 all_goals exact ⟨rfl,rfl⟩
theorem row_set {w:World} {base n e i:Nat} {v:Value} {xs:List Value} (h:w.ownsRow base e 1 v n xs) {g:Nat} (hg:v.ownBlock=some g) (hi:i<n) (x:Value):(w.setCell ⟨g,i,none⟩ x).ownsRow base e 1 v n (xs.set i x):=by
 obtain ⟨hl,⟨rfl,_⟩ | ⟨g',cap,cur,rfl,hb,hblk,h1,h2,h3,h4⟩⟩:=h
 . cases hg
 . cases hg
   refine ⟨by rw [List.length_set];exact hl,Or.inr ⟨g',cap,cur.setIfInBounds i x,rfl,hb,Go.Joins.block_setCell hblk x,h1,h2,by simpa using h3,?_⟩⟩
   rw [Array.toList_setIfInBounds,<- h4,List.take_set]
theorem row_free {w:World} {base n e:Nat} {v:Value} {xs:List Value} (h:w.ownsRow base e 1 v n xs) {g:Nat} (hg:v.ownBlock=some g) (i:Nat):w.frozen? ⟨g,i,none⟩=false:=by
 obtain ⟨hl,⟨rfl,_⟩ | ⟨g',cap,cur,rfl,hb,hblk,_⟩⟩:=h
 . cases hg
 . cases hg;exact Go.Joins.unfrozen_of_block hblk i
theorem MapC.tight {w:World} {b n c:Nat} {f:Int->Option Int} (h:MapC w b n c f):MapC w b c c f:=by
 obtain ⟨D,⟨es,clock,hb,F,hs,hD⟩,hc,hd⟩:=h
 refine ⟨D,⟨es,clock,hb,F,?_,hD⟩,hc,hd⟩
 rw [<- hc,hD]
 exact Nat.le_of_eq (length_read es).symm
structure Kf (S:Nat->Prop) (w w':World):Prop where
 os:w'.os=w.os
 tape:w'.tape=w.tape
 output:w'.output=w.output
 size:w.heap.size<=w'.heap.size
 block: ∀ k,k<w.heap.size-> ¬ S k->w'.heap[k]? =w.heap[k]?
theorem Kf.refl (S:Nat->Prop) (w:World):Kf S w w:=⟨rfl,rfl,rfl,Nat.le_refl _,fun _ _ _=>rfl⟩
theorem Kf.trans {S:Nat->Prop} {a b c:World} (h:Kf S a b) (k:Kf S b c):Kf S a c:=⟨k.os.trans h.os,k.tape.trans h.tape,k.output.trans h.output,Nat.le_trans h.size k.size,fun j hj hS=>(k.block j (nla hj h.size) hS).trans (h.block j hj hS)⟩
theorem Kf.grown {S:Nat->Prop} {a b:World} {r:Nat} (h:a.grownBy b (some r)) (hr:S r):Kf S a b:=⟨h.os,h.tape,h.output,h.size,fun j hj hS=>h.block j hj (fun e=>hS (by rw [sia e];exact hr))⟩
theorem Kf.grownO {S:Nat->Prop} {a b:World} {r:Option Nat} (h:a.grownBy b r) (hr: ∀ k,r=some k->S k):Kf S a b:=⟨h.os,h.tape,h.output,h.size,fun j hj hS=>h.block j hj (fun e=>hS (hr j e.symm))⟩
theorem Kf.below {S:Nat->Prop} {a b:World} (h:bc a b):Kf S a b:=⟨h.os,h.tape,h.output,h.size,fun j hj _=>h.block j hj⟩
theorem Kf.set {S:Nat->Prop} (w:World) (g i:Nat) (x:Value) (hS:S g):Kf S w (w.setCell ⟨g,i,none⟩ x):=by
 have bl:=(Below.refl g w).setCell (p:=⟨g,i,none⟩) (Nat.le_refl g) x
 exact ⟨bl.os,bl.tape,bl.output,bl.size,fun j _ hj=>Below.heap_setCell _ _ _ _ (fun e=>hj (by rw [e];exact hS))⟩
theorem Kf.drew {S:Nat->Prop} {a b:World} (h:Kf S a b):Kf S a b.drew:=⟨h.os,h.tape,h.output,h.size,h.block⟩
def swapL (h:List Int) (i j:Nat):List Int:=(h.set i (h.getD j 0)).set j (h.getD i 0)
def Placed (h:List Int) (F:Int->Option Int):Prop:=(∀ k (hk:k<h.length),F h[k]=some (k:Int))/\(∀ a k,F a=some k-> ∃ m:Nat,k=m/\h[m]? =some a)/\ ∀ a∈h,0<=a/\a<1048576
theorem Placed.ne {h:List Int} {F:Int->Option Int} (H:Placed h F) {i j:Nat} (hi:i<h.length) (hj:j<h.length) (n:i≠j):h[i]≠h[j]:=fun e=>by
 have a:=H.1 i hi
 rw [e,H.1 j hj] at a
 have:=sia a
 omega
theorem swap_any (base b q mb n:Nat) (C:List Value) (sv:Value) (h:List Int) (F:Int->Option Int) (i j:Nat) (hi:i<h.length) (hj:j<h.length) (nij:i≠j) (hn:n<maxLen) (hl:h.length<4611686018427387904) (w:World) (H:Bl w base b q mb n C sv h F) (hP:Placed h F) :
 Calls Tryz.prog 180 (sf (.pointer (some ⟨b,q,none⟩)) i j) w fun e w'=>e=.returned (.tuple #[])/\Bl w' base b q mb n C sv (swapL h i j) (setF (setF F h[j] (some (i:Int))) h[i] (some (j:Int)))/\Kf (fun k=>k=mb\/sv.ownBlock=some k) w w':=by
 obtain ⟨p,c,hv,rd⟩:=H.read
 obtain ⟨g,rfl,bg,lg,ri⟩:=rd i hi
 obtain ⟨g',e',_,_,rj⟩:=rd j hj
 cases e'
 have hg:sv.ownBlock=some g:=by rw [hv];rfl
 have ng:=H.nb g hg
 obtain ⟨W1,hW1⟩: ∃ W1,W1=(w.setCell ⟨g,i,none⟩ (.int .i64 h[j])).setCell ⟨g,j,none⟩ (.int .i64 h[i]):=⟨_,rfl⟩
 have hp: ∀ k,k≠g->W1.heap[k]? =w.heap[k]? :=fun k hk=>by rw [hW1];exact (Below.heap_setCell _ _ _ _ hk).trans (Below.heap_setCell _ _ _ _ hk)
 have wi:(Lit.int .i64 h[i]).wf=true:=by have:=hP.2.2 h[i] (List.getElem_mem hi);exact wf64 (by omega) (by omega)
 have wj:(Lit.int .i64 h[j]).wf=true:=by have:=hP.2.2 h[j] (List.getElem_mem hj);exact wf64 (by omega) (by omega)
 have M1:MapC W1.drew.drew mb n n F:=H.mp.block (hp mb (fun e=>ng.2 e.symm))
 have fy:(F h[j]).isSome=true:=by rw [hP.1 j hj];rfl
 obtain ⟨v1,s1,r1,st1⟩:=M1.entry wj fy
 obtain ⟨w2,u2,m2,g2⟩:=M1.set hn wj (wf64 (by omega) (by omega):(Lit.int .i64 (i:Int)).wf=true)
 rw [if_pos fy] at m2
 have M2:=m2.tight
 have nxy:h[i]≠h[j]:=hP.ne hi hj nij
 have fx:(setF F h[j] (some (i:Int)) h[i]).isSome=true:=by rw [set_other _ _ _ _ nxy,hP.1 i hi];rfl
 obtain ⟨v2,s2,r2,st2⟩:=M2.entry wi fx
 obtain ⟨w3,u3,m3,g3⟩:=M2.set hn wi (wf64 (by omega) (by omega):(Lit.int .i64 (j:Int)).wf=true)
 rw [if_pos fx] at m3
 have c0:w.cell? ⟨b,q,none⟩=some (.map (some mb)):=by rw [H.blk.cell,H.cm]
 have c1:w.cell? ⟨b,q+1,none⟩=some (.slice (some ⟨g,0,none⟩) h.length c):=by rw [H.blk.cell,H.cs,hv]
 have e1:=(st1 (.int .i64 i)).trans u2
 have e2:=(st2 (.int .i64 j)).trans u3
 rw [hW1] at r1 e1
 refine (swap_walk b q mb g c h.length i j h[i] h[j] w w2 w3 c0 c1 ri rj (row_free H.own hg i) (row_free H.own hg j) hi hj nij lg (blk_lt H.blk) ng.1 v1 v2 s1 s2 r1 e1 r2 e2).mono ?_
 rintro e w' ⟨he,rfl⟩
 have k3: ∀ k,k<w.heap.size->k≠g->k≠mb->w'.heap[k]? =w.heap[k]? :=fun k hk h1 h2=>by
  have z1:k<W1.drew.drew.heap.size:=by
   have:=(Array.getElem?_eq_some_iff.1 ((hp k h1).trans (Array.getElem?_eq_getElem hk))).1
   exact this
  have z2:=g2.block k z1 (fun e=>h2 (sia e))
  have z3:=g3.block k (nla z1 g2.size) (fun e=>h2 (sia e))
  exact (z3.trans z2).trans (hp k h1)
 have kf:Kf (fun k=>k=mb\/sv.ownBlock=some k) w w':=by
  have a1:Kf (fun k=>k=mb\/sv.ownBlock=some k) w W1:=by rw [hW1];exact (Kf.set w g i _ (Or.inr hg)).trans (Kf.set _ g j _ (Or.inr hg))
  exact (a1.drew.drew.trans (Kf.grown g2 (Or.inl rfl))).trans (Kf.grown g3 (Or.inl rfl))
 have row1:W1.ownsRow base 3 1 sv h.length (((h.map (Value.int .i64)).set i (.int .i64 h[j])).set j (.int .i64 h[i])):=by rw [hW1];exact row_set (row_set H.own hg hi _) hg hj _
 have row3:w'.ownsRow base 3 1 sv (swapL h i j).length ((swapL h i j).map (Value.int .i64)):=by
  have q1:(swapL h i j).map (Value.int .i64)=((h.map (Value.int .i64)).set i (.int .i64 h[j])).set j (.int .i64 h[i]):=by
   unfold swapL
   rw [List.map_set,List.map_set,List.getD_eq_getElem?_getD,List.getD_eq_getElem?_getD,List.getElem?_eq_getElem hi,List.getElem?_eq_getElem hj];rfl
  have q2:(swapL h i j).length=h.length:=by unfold swapL;simp
  rw [q1,q2]
  refine row_keep row1 (fun g' e=> ?_)
  rw [hg] at e
  cases e
  have z1:g<W1.drew.drew.heap.size:=by
   have:g<W1.heap.size:=by rw [hW1];simpa using lg
   exact this
  have z2:=g2.block g z1 (fun e=>ng.2 (sia e))
  have z3:=g3.block g (nla z1 g2.size) (fun e=>ng.2 (sia e))
  exact z3.trans z2
 exact ⟨he,⟨(k3 b (blk_lt H.blk) (fun e=>ng.1 e.symm) H.ne).trans H.blk,H.cm,H.cs,row3,m3.tight,H.ne,H.nb,H.lb⟩,kf⟩
theorem wpList_app {P:Program} {ops:Array Oper} {rest:List Oper} {o:Oper} {a:Act} {w:World} {Q:Exit->Act->World->Prop} (hgd:o.guard=none) (s x:Operand) (t:TypeId)
 (ho:o.op=.call { callee:=.builtin .append,args:= #[s,x],argTypes:= #[t,t] }) (vs vx:Value) (hs:a.eval s=vs) (hx:a.eval x=vx) (v':Value) (w1:World)
 (hr:(Builtin.append_ #[t,t] o.type #[vs,vx]).run P w=.ok v' w1) (h:wpList P ops Q rest (a.put o.dst v') w1):wpList P ops Q (o::rest) a w:=by
 refine wpList_plain hgd fun K hK=> ?_
 unfold Oper.wp execOp
 simp only [ho,resolve,invoke,builtin,Sem.run_bind,Sem.run_pure,Result.andThen_ok,List.map_toArray,List.map_cons,List.map_nil,hs,hx,hr]
 exact hK _ _ h
theorem infoI: ∃ i,Tryz.prog.info? 3=some i/\i.zero=some (.int .i64 0)/\i.size=1/\i.bytes=8:=⟨_,rfl,by kernel_rfl,by kernel_rfl,by kernel_rfl⟩
theorem one_new {w:World} {b:Nat} {x:Int} (h:w.cell? ⟨b,0,none⟩=some (.int .i64 x)): ∀ j u,([.int .i64 x]:List Value)[j]? =some u->w.cell? ((⟨b,0,none⟩:Addr).add j)=some u:=by
 intro j u hu
 cases j with
 | zero => cases hu; rw [Addr.add_mid]; exact h
 | succ j => simp at hu
theorem one_one (x:Int): ∀ u∈([.int .i64 x]:List Value),u.oneCell'=true:=by
 intro u hu
 simp at hu
 subst hu;rfl
theorem app_row (base:Nat) (v:Value) (L:List Int) (x:Int) (hL:L.length<=1048576) (w:World) (h:w.ownsRow base 3 1 v L.length (L.map (Value.int .i64))) (hb:base<=w.heap.size) (hv: ∀ g,v.ownBlock=some g->g<w.heap.size) :
 ∃ v' W2,(Builtin.append_ #[22,22] 22 #[v,.slice (some ⟨w.heap.size,0,none⟩) 1 1]).run Tryz.prog (w.alloc (.cells #[.int .i64 x] 3))=.ok v' W2/\W2.ownsRow base 3 1 v' (L++[x]).length ((L++[x]).map (Value.int .i64))/\(w.alloc (.cells #[.int .i64 x] 3)).grownBy W2 v.ownBlock/\(v'.ownBlock=v.ownBlock\/v'.ownBlock=some (w.heap.size+1)):=by
 obtain ⟨i0,hi,hz0,hz1,hz2⟩:=infoI
 have O0:(w.alloc (.cells #[.int .i64 x] 3)).ownsRow base 3 1 v L.length (L.map (Value.int .i64)):=row_keep h (fun g e=>(Go.Joins.below_alloc1 w (.cells #[.int .i64 x] 3)).block g (hv g e))
 obtain ⟨v',W2,r,ho,hg,_,hat⟩:=run_append_own_at (P:=Tryz.prog) (w.alloc (.cells #[.int .i64 x] 3)) base 22 22 3 i0 (.int .i64 0) 1 8 Tryz.underlying22 hi hz0 hz1 hz2 rfl (by decide) v L.length (L.map (Value.int .i64)) O0
  ⟨w.heap.size,0,none⟩ 1 1 [.int .i64 x] rfl (one_new (Go.Joins.cell_of_block (own1 w _) 0)) (one_one x) (by unfold maxLen;omega) (by omega) ke
 rw [World.size_alloc] at hat
 refine ⟨v',W2,r,?_,hg,hat⟩
 rw [List.length_append,List.map_append];exact ho
theorem row_lt {w:World} {base n e s:Nat} {v:Value} {xs:List Value} (h:w.ownsRow base e s v n xs): ∀ g,v.ownBlock=some g->base<=g/\g<w.heap.size:=by
 obtain ⟨h1,h2⟩:=h
 rcases h2 with ⟨rfl,_⟩ | ⟨g',cap',cur,rfl,e2,e3,e4⟩
 . intro j e;cases e
 . intro j e;cases e;exact ⟨e2,blk_lt e3⟩
theorem getP (C:List Value) (q:Nat) (v:Value) (sv:Value) (h:C[q+1]? =some sv):(C.set (q+1) v)[q]? =C[q]? /\(C.set (q+1) v)[q+1]? =some v:=by
 have l:q+1<C.length:=(List.getElem?_eq_some_iff.1 h).1
 refine ⟨by rw [List.getElem?_set_ne (by omega)],?_⟩
 rw [List.getElem?_set_self l]
theorem own_len {w:World} {base n e s:Nat} {v:Value} {xs:List Value} (h:w.ownsRow base e s v n xs): ∃ p c,v=.slice p n c:=by
 obtain ⟨h1,h2⟩:=h
 rcases h2 with ⟨rfl,rfl⟩ | ⟨g',cap',cur,rfl,e2,e3,e4⟩
 . exact ⟨_,_,rfl⟩
 . exact ⟨_,_,rfl⟩
theorem push_any (base b q mb n:Nat) (C:List Value) (sv:Value) (h:List Int) (F:Int->Option Int) (x:Int) (hx:0<=x/\x<1048576) (hn:n<maxLen) (hl:h.length<=1048576) (w:World) (H:Bl w base b q mb n C sv h F) (hB:base<=w.heap.size) (hF:F x=none) :
 Calls Tryz.prog 179 #[.pointer (some ⟨b,q,none⟩),.iface 3 (.int .i64 x)] w fun e w'=> ∃ sv',e=.returned (.tuple #[])/\Bl w' base b q mb (n+1) (C.set (q+1) sv') sv' (h++[x]) (setF F x (some (h.length:Int)))/\Kf (fun k=>k=b\/k=mb\/sv.ownBlock=some k) w w'/\(sv'.ownBlock=sv.ownBlock\/ ∃ g,sv'.ownBlock=some g/\w.heap.size<=g):=by
 have wx:(Lit.int .i64 x).wf=true:=wf64 (by omega) (by omega)
 obtain ⟨p,c,hv,rd⟩:=H.read
 have M0:MapC w.drew mb n n F:=H.mp.block rfl
 obtain ⟨w1,r1,m1,g1⟩:=M0.set hn wx (wf64 (by omega) (by omega):(Lit.int .i64 (h.length:Int)).wf=true)
 rw [hF] at m1
 have m1':MapC w1 mb (n+1) (n+1) (setF F x (some (h.length:Int))):=m1
 have lbk:b<w.heap.size:=blk_lt H.blk
 have b1:Blk w1 b C 190:=(g1.block b lbk (fun e=>H.ne (sia e))).trans H.blk
 have lrow:=row_lt H.own
 have row1:w1.ownsRow base 3 1 sv h.length (h.map (Value.int .i64)):=row_keep H.own (fun g e=>g1.block g (lrow g e).2 (fun e'=>(H.nb g e).2 (sia e')))
 have s1:=g1.size
 have s1':w.heap.size<=w1.heap.size:=s1
 obtain ⟨v',W2,r2,ho,hg2,hat⟩:=app_row base sv h x hl w1 row1 (by omega) (fun g e=>nla (lrow g e).2 s1')
 obtain ⟨p',c',hv'⟩:=own_len ho
 obtain ⟨n1,hn1⟩: ∃ n1,n1=(h++[x]).length:=⟨_,rfl⟩
 rw [<- hn1] at hv'
 have HN1:Hid (n1=(h++[x]).length):=hn1
 clear hn1
 subst hv'
 have c0:w.cell? ⟨b,q,none⟩=some (.map (some mb)):=by rw [H.blk.cell,H.cm]
 have c1:w.cell? ⟨b,q+1,none⟩=some (.slice p h.length c):=by rw [H.blk.cell,H.cs,hv]
 have d1:w1.cell? ⟨b,q+1,none⟩=some (.slice p h.length c):=by rw [b1.cell,H.cs,hv]
 have lb1:b<w1.heap.size:=blk_lt b1
 have bb:sv.ownBlock≠some b:=fun e=>(H.nb b e).1 rfl
 have b2:Blk W2 b C 190:=(hg2.block b ke (fun e=>bb e.symm)).trans (b1.below baa)
 have f2:W2.frozen? ⟨b,q+1,none⟩=false:=b2.free (q+1)
 have d2:W2.cell? ⟨b,q+1,none⟩=some (.slice p h.length c):=by rw [b2.cell,H.cs,hv]
 have lb2:b<W2.heap.size:=blk_lt b2
 obtain ⟨n0,hn0⟩: ∃ n0,n0=h.length:=⟨_,rfl⟩
 rw [<- hn0] at c1 d1 d2 r1
 rw [hv,<- hn0] at r2
 have HH:Hid (Bl w base b q mb n C sv h F):=H
 have P1:Hid (MapC w1 mb (n+1) (n+1) (setF F x (some (h.length:Int)))):=m1'
 have G1:Hid (w.drew.grownBy w1 (some mb)):=g1
 have G2:Hid ((w1.alloc (.cells #[.int .i64 x] 3)).grownBy W2 sv.ownBlock):=hg2
 have HO:Hid (W2.ownsRow base 3 1 (.slice p' n1 c') (h++[x]).length ((h++[x]).map (Value.int .i64))):=ho
 have HA:Hid ((Value.slice p' n1 c').ownBlock=sv.ownBlock\/(Value.slice p' n1 c').ownBlock=some (w1.heap.size+1)):=hat
 have HB2:Hid (Blk W2 b C 190):=b2
 have HN:Hid (n0=h.length):=hn0
 have HV:Hid (sv=.slice p h.length c):=hv
 clear H rd M0 m1 m1' g1 b1 row1 hg2 ho hat b2 lrow bb hn0 hv
 have ta: ∀ W:World,(Instr.typeAssert (.iface 3 (.int .i64 x)) 20 3 false).run Tryz.prog W=.ok (.int .i64 x) W:=fun W=>by kernel_rfl
 go_enter Tryz.func179,Tryz.ntmps179
 go_wp2_with fail
 go_region
 all_goals (go_wp2_with (at_builtin;refine wpList_app rfl _ _ 22 rfl (.slice p n0 c) (.slice (some ⟨w1.heap.size,0,none⟩) 1 1) rfl rfl (.slice p' n1 c') W2 r2 ?_))
 go_end0
 have H:=HH.out
 have gp:=getP C q (.slice p' n1 c') sv H.cs
 have rl:=row_lt HO.out
 have lb:=H.lb
 have hs: ∀ k,k≠b->(W2.setCell ⟨b,q+1,none⟩ (.slice p' n1 c')).heap[k]? =W2.heap[k]? :=fun k hk=>Below.heap_setCell _ _ _ _ hk
 have nmb:sv.ownBlock≠some mb:=fun e=>(H.nb mb e).2 rfl
 have lm1:mb<w1.heap.size:=P1.out.lt
 have hm:(W2.setCell ⟨b,q+1,none⟩ (.slice p' n1 c')).heap[mb]? =w1.heap[mb]? :=(hs mb (fun e=>H.ne e.symm)).trans ((G2.out.block mb ke (fun e=>nmb e.symm)).trans (baa.block mb lm1))
 refine ⟨_,rfl,⟨HB2.out.set (q+1) _,gp.1.trans H.cm,gp.2,row_keep HO.out (fun g e=>hs g (fun e'=>by have:=(rl g e).1;omega)),P1.out.block hm,H.ne,fun g e=>by have:=(rl g e).1;omega,lb⟩,?_,?_⟩
 . have k1:Kf (fun k=>k=b\/k=mb\/sv.ownBlock=some k) w w1:=(Kf.refl _ w).drew.trans (Kf.grown G1.out (Or.inr (Or.inl rfl)))
   exact ((k1.trans (Kf.below baa)).trans (Kf.grownO G2.out (fun k e=>Or.inr (Or.inr e)))).trans (Kf.set W2 b (q+1) _ (Or.inl rfl))
 . rcases HA.out with e | e
   . exact Or.inl e
   . exact Or.inr ⟨_,e,by omega⟩
theorem pop_any (base b q mb n:Nat) (C:List Value) (sv:Value) (h:List Int) (F:Int->Option Int) (x:Int) (hx:0<=x/\x<1048576) (hl:h.length<=1048576) (w:World) (H:Bl w base b q mb n C sv (h++[x]) F) :
 Calls Tryz.prog 178 #[.pointer (some ⟨b,q,none⟩)] w fun e w'=> ∃ sv' n',e=.returned (.iface 3 (.int .i64 x))/\n'<=n/\Bl w' base b q mb n' (C.set (q+1) sv') sv' h (setF F x none)/\Kf (fun k=>k=b\/k=mb\/sv.ownBlock=some k) w w'/\sv'.ownBlock=sv.ownBlock:=by
 have wx:(Lit.int .i64 x).wf=true:=wf64 (by omega) (by omega)
 obtain ⟨p,c,hv,rd⟩:=H.read
 have ll:(h++[x]).length=h.length+1:=by simp
 obtain ⟨g,rfl,bg,lg,rx⟩:=rd h.length (by omega)
 have rx':w.cell? ⟨g,h.length,none⟩=some (.int .i64 x):=by rw [rx];simp
 rw [ll] at hv
 have hg:sv.ownBlock=some g:=by rw [hv];rfl
 have hs: ∀ k,k≠b->(w.setCell ⟨b,q+1,none⟩ (.slice (some ⟨g,0,none⟩) h.length c)).heap[k]? =w.heap[k]? :=fun k hk=>Below.heap_setCell _ _ _ _ hk
 obtain ⟨W1,hW1⟩: ∃ W1,W1=w.setCell ⟨b,q+1,none⟩ (.slice (some ⟨g,0,none⟩) h.length c):=⟨_,rfl⟩
 rw [<- hW1] at hs
 have M1:MapC W1 mb n n F:=H.mp.block (hs mb (fun e=>H.ne e.symm))
 obtain ⟨w2,r2,⟨n',m2⟩,g2⟩:=M1.del wx 0
 have nn:n'<=n:=m2.count
 have gp:=getP C q (.slice (some ⟨g,0,none⟩) h.length c) sv H.cs
 have ng:=H.nb g hg
 have b1:Blk W1 b (C.set (q+1) (.slice (some ⟨g,0,none⟩) h.length c)) 190:=by rw [hW1];exact H.blk.set (q+1) _
 have b2:Blk w2 b (C.set (q+1) (.slice (some ⟨g,0,none⟩) h.length c)) 190:=(g2.block b (blk_lt b1) (fun e=>H.ne (sia e))).trans b1
 have row0:w.ownsRow base 3 1 (.slice (some ⟨g,0,none⟩) h.length c) h.length (h.map (Value.int .i64)):=by
  have o:=H.own
  rw [hv,ll,List.map_append] at o
  exact ownsRow_pop (by simp) o
 have row2:w2.ownsRow base 3 1 (.slice (some ⟨g,0,none⟩) h.length c) h.length (h.map (Value.int .i64)):=by
  refine row_keep row0 (fun g' e=> ?_)
  cases e
  have lg1:g<W1.heap.size:=(Array.getElem?_eq_some_iff.1 ((hs g ng.1).trans (Array.getElem?_eq_getElem lg))).1
  exact (g2.block g lg1 (fun e=>ng.2 (sia e))).trans (hs g ng.1)
 have BL:Hid (Bl w2 base b q mb n' (C.set (q+1) (.slice (some ⟨g,0,none⟩) h.length c)) (.slice (some ⟨g,0,none⟩) h.length c) h (setF F x none)) :=
  ⟨b2,gp.1.trans H.cm,gp.2,row2,m2.tight,H.ne,fun g' e=>by cases e;exact ng,H.lb⟩
 have KK:Hid (Kf (fun k=>k=b\/k=mb\/sv.ownBlock=some k) w w2):=by
  have k1:Kf (fun k=>k=b\/k=mb\/sv.ownBlock=some k) w W1:=by rw [hW1];exact Kf.set w b (q+1) _ (Or.inl rfl)
  exact k1.trans (Kf.grown g2 (Or.inr (Or.inl rfl)))
 have OB:Hid ((Value.slice (some ⟨g,0,none⟩) h.length c).ownBlock=sv.ownBlock):=by show _=_;rw [hg];rfl
 have c0:w.cell? ⟨b,q,none⟩=some (.map (some mb)):=by rw [H.blk.cell,H.cm]
 have c1:w.cell? ⟨b,q+1,none⟩=some (.slice (some ⟨g,0,none⟩) (h.length+1) c):=by rw [H.blk.cell,H.cs,hv]
 have f1:w.frozen? ⟨b,q+1,none⟩=false:=H.blk.free (q+1)
 have lbk:b<w.heap.size:=blk_lt H.blk
 have gb:g≠b:=ng.1
 have gb':b≠g:=fun e=>ng.1 e.symm
 have capc:h.length+1<=c:=by
  obtain ⟨_,⟨e0,_⟩ | ⟨g',cap,cur,e1,_,_,e4,_⟩⟩:=H.own
  . rw [hv] at e0;cases e0
  . rw [hv] at e1
    simp only [Value.slice.injEq] at e1
    rw [e1.2.2];omega
 subst hW1
 obtain ⟨n0,hn0⟩: ∃ n0,n0=h.length:=⟨_,rfl⟩
 rw [<- hn0] at c1 rx' r2 capc hl BL OB
 clear H rd rx ll hs M1 m2 gp ng b1 b2 row0 row2 g2 hv hg hn0
 have i0:decide ((n0:Int)<0)=false:=by simp
 have i1:decide ((n0:Int)<(n0:Int)+1)=true:=kh
 go_enter Tryz.func178,Tryz.ntmps178
 go_wp2_with fail
 go_ret
 exact ⟨_,n',rfl,nn,BL.out,KK.out,OB.out⟩
end Go.Proofs.YtgbdnnkkcpkhdaaGreatDoor.Bd
