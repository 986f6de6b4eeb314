import Derived.Test.YtokpmclmdobgeaaGreatChecked
import Derived.WalkKit
import Derived.ProofKit
import Derived.OpenShut
import Derived.Carry
import Derived.WalkLawsBesides
import Derived.Lib.SmallJoins
import Derived.Deep.Light
import Derived.Deep.Draws
import Derived.Deep.MidRow
import Derived.Deep.RegionHeld3
import Derived.Deep.DeepCutAuto
import Derived.Maps.OwnSet
import Derived.Maps.OwnOps
import Derived.Laws.ShiftsVar
import Derived.RegionTactic
import Derived.BigRegion
import Derived.BigQuiet
import Derived.Sort.BigQuietIn
import Derived.MapKept
import Derived.DeepKeys4
import Derived.Laws.StructEq
import Derived.Laws.Tables
import Derived.Handy
import Derived.Test.YtokpmclmdobgeaaGreatKZe
import Derived.Test.YtokpmclmdobgeaaGreatJQe
set_option linter.unusedSimpArgs false
set_option linter.unusedVariables false
set_option maxRecDepth 8000
set_option maxHeartbeats 2000000
open Go.ChangeShapes Go.WideShapes Go.ChangeAt Go.RowKit Go.Maps
namespace Go.Proofs.YtokpmclmdobgeaaGreat.Fl
abbrev pp (b:Nat):Value:=.pointer (some ⟨b,0,none⟩)
def Rd (c A B:Prop):Prop:=(c->A)/\(¬ c->B)
theorem Rd.y {c A B:Prop} (h:c) (a:A):Rd c A B:=⟨fun _=>a,fun n=>absurd h n⟩
theorem Rd.n {c A B:Prop} (h: ¬ c) (b:B):Rd c A B:=⟨fun y=>absurd y h,fun _=>b⟩
theorem Rd.t {c A B:Prop} (a:A) (h:c:=by trivial):Rd c A B:=Rd.y h a
theorem Rd.f {c A B:Prop} (b:B) (h: ¬ c:=by first | assumption | decide | simp):Rd c A B:=Rd.n h b
theorem Rd.yes {c A B:Prop} (h:Rd c A B) (y:c):A:=h.1 y
theorem Rd.no {c A B:Prop} (h:Rd c A B) (y: ¬ c):B:=h.2 y
theorem below_new {w w':World} (h:bc w w') (o:Obj):bc w (w'.alloc o):=h.alloc h.size o
theorem below_then {w x y:World} (h1:bc w x) (h2:bc x y):bc w y:=h1.trans (Go.Joins.below_le h2 h1.size)
theorem below_drew {n:Nat} {w W:World} (h:Below n w W):Below n w W.drew:=⟨h.os,h.tape,h.output,h.size,h.block⟩
theorem wf64 {k:Int} (h0: -9223372036854775808<=k) (h1:k<=9223372036854775807):(Lit.int .i64 k).wf=true:=by
 simp [Lit.wf,IntKind.min,IntKind.max,IntKind.signed,IntKind.bits];omega
structure Kept (K:Nat->Prop) (w w':World):Prop where
 os:w'.os=w.os
 tape:w'.tape=w.tape
 output:w'.output=w.output
 size:w.heap.size<=w'.heap.size
 block: ∀ k,K k->w'.heap[k]? =w.heap[k]?
theorem Kept.refl (K:Nat->Prop) (w:World):Kept K w w:=⟨rfl,rfl,rfl,Nat.le_refl _,fun _ _=>rfl⟩
theorem Kept.trans {K:Nat->Prop} {a b c:World} (h:Kept K a b) (k:Kept K b c):Kept K a c:=⟨k.os.trans h.os,k.tape.trans h.tape,k.output.trans h.output,Nat.le_trans h.size k.size,fun j hj=>(k.block j hj).trans (h.block j hj)⟩
theorem Kept.sub {K K':Nat->Prop} {a b:World} (h:Kept K a b) (hs: ∀ j,K' j->K j):Kept K' a b:=⟨h.os,h.tape,h.output,h.size,fun j hj=>h.block j (hs j hj)⟩
theorem kept_of_below {X:Nat->Prop} {w w':World} (h:bc w w') (hl: ∀ j,X j->j<w.heap.size):Kept X w w':=⟨h.os,h.tape,h.output,h.size,fun j hj=>h.block j (hl j hj)⟩
theorem kept_grown {X:Nat->Prop} {w w':World} {b:Nat} (h:w.grownBy w' (some b)) (hl: ∀ j,X j->j≠b/\j<w.heap.size):Kept X w w':=⟨h.os,h.tape,h.output,h.size,fun j hj=>h.block j (hl j hj).2 (fun e=>(hl j hj).1 (sia e))⟩
def Blk (w:World) (b:Nat) (C:List Value) (t:TypeId):Prop:=w.heap[b]? =some (.cells C.toArray t (0,0))
theorem blk_lt {w:World} {b:Nat} {o:Obj} (h:w.heap[b]? =some o):b<w.heap.size:=(Array.getElem?_eq_some_iff.1 h).1
theorem own1 (w:World) (o:Obj):(w.alloc o).heap[w.heap.size]? =some o:=(MapKept.heap_alloc w o).1
section
variable {w:World} {b:Nat} {C:List Value} {t:TypeId}
theorem Blk.lt (h:Blk w b C t):b<w.heap.size:=blk_lt h
theorem Blk.cell (h:Blk w b C t) (i:Nat):w.cell? ⟨b,i,none⟩=C[i]? :=by rw [Go.Joins.cell_of_block h i];simp
theorem Blk.free (h:Blk w b C t) (i:Nat):w.frozen? ⟨b,i,none⟩=false:=Go.Joins.unfrozen_of_block h i
theorem Blk.below {w w':World} {b:Nat} {C:List Value} {t:TypeId} (h:Blk w b C t) (k:bc w w'):Blk w' b C t:=(k.block b (blk_lt h)).trans h
theorem Blk.made (w:World) (C:List Value) (t:TypeId):Blk (w.alloc (.cells C.toArray t)) w.heap.size C t:=own1 w _
theorem Blk.set (h:Blk w b C t) (i:Nat) (v:Value):Blk (w.setCell ⟨b,i,none⟩ v) b (C.set i v) t:=by
 unfold Blk
 rw [Go.Joins.block_setCell h];simp
theorem Blk.there (h:Blk w b C t):w.there b 0 C.length:=fun j hj=>by
 rw [Nat.zero_add,h.cell j,List.getElem?_eq_getElem hj]
 exact ⟨rfl,h.free j⟩
theorem Blk.range (h:Blk w b C t):w.rangeAt b 0 C:=fun j v hv=>by rw [Nat.zero_add,h.cell j];exact hv
theorem blk_sets {b:Nat} {t:TypeId}: ∀ (cs pre C:List Value) (w:World),Blk w b (pre++C) t->C.length=cs.length->Blk (w.setCells b pre.length cs) b (pre++cs) t
 | [], pre, C, w, h, e => by
  have:C=[]:=List.length_eq_zero_iff.1 e
  subst this;exact h
 | v :: r, pre, C, w, h, e => by
  cases C with
  | nil => simp at e
  | cons c C' =>
   rw [World.setCells]
   have h2:=h.set pre.length v
   have e2:(pre++c::C').set pre.length v=(pre++[v])++C':=by
    rw [List.set_append_right _ _ (Nat.le_refl _)];simp
   rw [e2] at h2
   have:=blk_sets r (pre++[v]) C' _ h2 (by simpa using e)
   rw [List.length_append] at this
   simpa using this
theorem Blk.put {w:World} {b:Nat} {C cs:List Value} {t:TypeId} (h:Blk w b C t) (e:C.length=cs.length):Blk (w.setCells b 0 cs) b cs t:=by
 have:=blk_sets cs [] C w (by simpa using h) e
 simpa using this
theorem results_one {fn:Func} {p:Tmp} {t:TypeId} (h:fn.results= #[.cell p t]) (tmps:Array Value) (P:Program) (w:World) (a:Addr) (x:Value)
 (ha:tmps.getD p undef=.pointer (some a)) (hx:(loadVar t a).run P w=.ok x w):(results fn tmps).run P w=.ok x w:=by
 simp only [results,h]
 have e1: ∀ W:World,(asAddr (Value.pointer (some a))).run P W=.ok a W:=fun _=>rfl
 simp at ha
 simp [Sem.run_bind,Result.andThen,ha,e1,hx]
theorem grown_setCell1 (w:World) (b o:Nat) (v:Value):w.grownBy (w.setCell ⟨b,o,none⟩ v) (some b):=by
 have h:Below 0 w (w.setCell ⟨b,o,none⟩ v):=(Below.refl 0 w).setCell (Nat.zero_le _) v
 exact ⟨h.os,h.tape,h.output,h.size,fun k hk hne=>Below.heap_setCell _ _ _ _ (fun e=>hne (by rw [show k=b from e]))⟩
theorem grown_trans {a b c:World} {r:Option Nat} (h:a.grownBy b r) (k:b.grownBy c r):a.grownBy c r:=⟨k.os.trans h.os,k.tape.trans h.tape,k.output.trans h.output,Nat.le_trans h.size k.size,fun j hj hne=>(k.block j (nla hj h.size) hne).trans (h.block j hj hne)⟩
theorem grown_refl (a:World) (r:Option Nat):a.grownBy a r:=⟨rfl,rfl,rfl,Nat.le_refl _,fun _ _ _=>rfl⟩
theorem grown_setCells (b:Nat): ∀ (vs:List Value) (o:Nat) (w:World),w.grownBy (w.setCells b o vs) (some b)
 | [], _, w => grown_refl w _
 | v :: r, o, w => by
  rw [World.setCells]
  exact grown_trans (grown_setCell1 w b o v) (grown_setCells b r (o+1) _)
theorem below_put {w W:World} {b:Nat} (h:bc w W) (hb:w.heap.size<=b) (vs:List Value):bc w (W.setCells b 0 vs):=by
 have g:=grown_setCells b vs 0 W
 exact h.trans ⟨g.os,g.tape,g.output,g.size,fun j hj=>g.block j (nla hj h.size) (fun e=>by have:=sia e;omega)⟩
theorem keyLaw:Keyed Tryz.prog 3:=int_keyed Tryz.underlying3
def pgD:Option Nat->DataW Unit
 | none => .nil
 | some b => .lit (.int .u64 b)
def pgV:Option Nat->Value
 | none => .pointer none
 | some b => .pointer (some ⟨b, 0, none⟩)
def ptrElem (v:Value):Option (DataW Unit × List MemPlace) :=
 match v with
 | .pointer none => some (pgD none, [])
 | .pointer (some a) => if a.off = 0 ∧ a.spot = none then some (pgD (some a.block), []) else none
 | _ => none
theorem ptrElem_pgV (o:Option Nat):ptrElem (pgV o)=some (pgD o,[]):=by cases o <;> simp [ptrElem,pgV]
theorem ptrElem_inv {v:Value} {o:Option Nat} {ps:List MemPlace} (h:ptrElem v=some (pgD o,ps)):v=pgV o:=by
 unfold ptrElem at h
 split at h
 . cases o with
   | none => rfl
   | some b => simp [pgD] at h
 . rename_i a
   split at h
   . rename_i c
     cases o with
     | none => simp [pgD] at h
     | some b =>
      simp [pgD] at h
      obtain ⟨h1,h2⟩:=c
      cases a;simp_all [pgV];omega
   . cases h
 . cases h
def put (pg:Int->Option Nat) (k:Int) (o:Option Nat):Int->Option Nat:=fun j=>if j=k then o else pg j
theorem zeroPr (w:World):(zeroValue 74).run Tryz.prog w=.ok (.pointer none) w:=kc
def MapF (w:World) (b n:Nat) (f:Int->Option Nat):Prop :=
 ∃ D:DataW Unit,w.ownsMap Tryz.prog 3 ptrElem b n D/\ ∀ k,D.atKey (.int .i64 k) .nil=pgD (f k)
section
variable {w w':World} {b n:Nat} {f:Int->Option Nat}
theorem MapF.look (h:MapF w b n f) {k:Int} (hk:(Lit.int .i64 k).wf=true) :
 (Instr.lookup 53 (.map (some b)) (.int .i64 k) false).run Tryz.prog w=.ok (pgV (f k)) w:=by
 obtain ⟨D,hown,hD⟩:=h
 obtain ⟨v,ps,hrun,hv⟩:=hown.lookup keyLaw Tryz.underlying53 (zeroPr w) (zd:=.nil) (zp:=[]) rfl (keyOf_int_mk Tryz.underlying3 hk)
 rw [hD] at hv
 rw [hrun,ptrElem_inv hv]
theorem MapF.set (h:MapF w b n f) (hn:n<maxLen) {k:Int} (hk:(Lit.int .i64 k).wf=true) (p:Nat) :
 ∃ w',(Instr.mapUpdate 53 (.map (some b)) (.int .i64 k) (pgV (some p))).run Tryz.prog w=.ok () w'/\MapF w' b (n+1) (put f k (some p))/\w.grownBy w' (some b):=by
 obtain ⟨D,hown,hD⟩:=h
 obtain ⟨w',hrun,hown',hg⟩:=hown.update keyLaw Tryz.underlying53 hn (keyOf_int_mk Tryz.underlying3 hk) (ptrElem_pgV (some p))
 refine ⟨w',hrun,⟨_,hown',?_⟩,hg⟩
 intro j
 unfold put
 by_cases c:j=k
 . subst c;rw [if_pos rfl];exact atKey_put_same hown.isMap (by trivial) _ _
 . rw [if_neg c,atKey_put_other (by intro e;cases e;exact c rfl)];exact hD j
theorem MapF.lt (h:MapF w b n f):b<w.heap.size:=by obtain ⟨D,hown,_⟩:=h;exact hown.lt
theorem MapF.block (h:MapF w b n f) (hb:w'.heap[b]? =w.heap[b]?):MapF w' b n f:=by
 obtain ⟨D,⟨es,clock,h1,r⟩,hD⟩:=h
 exact ⟨D,⟨es,clock,hb.trans h1,r⟩,hD⟩
theorem MapF.made (w:World):MapF (w.alloc (.map #[] 0)) w.heap.size 0 (fun _=>none) :=
 ⟨.map [],World.ownsMap_made w Tryz.prog 3 ptrElem,fun _=>rfl⟩
end
theorem zeroCo (w:World):(zeroValue 132).run Tryz.prog w=.ok (.pointer none) w:=kc
def MapL (w:World) (b n:Nat) (f:Int->Option Nat):Prop :=
 ∃ D:DataW Unit,w.ownsMap Tryz.prog 3 ptrElem b n D/\ ∀ k,D.atKey (.int .i64 k) .nil=pgD (f k)
section
variable {w w':World} {b n:Nat} {f:Int->Option Nat}
theorem MapL.look (h:MapL w b n f) {k:Int} (hk:(Lit.int .i64 k).wf=true) :
 (Instr.lookup 85 (.map (some b)) (.int .i64 k) false).run Tryz.prog w=.ok (pgV (f k)) w:=by
 obtain ⟨D,hown,hD⟩:=h
 obtain ⟨v,ps,hrun,hv⟩:=hown.lookup keyLaw Tryz.underlying85 (zeroCo w) (zd:=.nil) (zp:=[]) rfl (keyOf_int_mk Tryz.underlying3 hk)
 rw [hD] at hv
 rw [hrun,ptrElem_inv hv]
theorem MapL.set (h:MapL w b n f) (hn:n<maxLen) {k:Int} (hk:(Lit.int .i64 k).wf=true) (p:Nat) :
 ∃ w',(Instr.mapUpdate 85 (.map (some b)) (.int .i64 k) (pgV (some p))).run Tryz.prog w=.ok () w'/\MapL w' b (n+1) (put f k (some p))/\w.grownBy w' (some b):=by
 obtain ⟨D,hown,hD⟩:=h
 obtain ⟨w',hrun,hown',hg⟩:=hown.update keyLaw Tryz.underlying85 hn (keyOf_int_mk Tryz.underlying3 hk) (ptrElem_pgV (some p))
 refine ⟨w',hrun,⟨_,hown',?_⟩,hg⟩
 intro j
 unfold put
 by_cases c:j=k
 . subst c;rw [if_pos rfl];exact atKey_put_same hown.isMap (by trivial) _ _
 . rw [if_neg c,atKey_put_other (by intro e;cases e;exact c rfl)];exact hD j
theorem MapL.lt (h:MapL w b n f):b<w.heap.size:=by obtain ⟨D,hown,_⟩:=h;exact hown.lt
theorem MapL.block (h:MapL w b n f) (hb:w'.heap[b]? =w.heap[b]?):MapL w' b n f:=by
 obtain ⟨D,⟨es,clock,h1,r⟩,hD⟩:=h
 exact ⟨D,⟨es,clock,hb.trans h1,r⟩,hD⟩
theorem MapL.made (w:World):MapL (w.alloc (.map #[] 0)) w.heap.size 0 (fun _=>none) :=
 ⟨.map [],World.ownsMap_made w Tryz.prog 3 ptrElem,fun _=>rfl⟩
end
theorem laidOut:laidOutB Tryz.prog=true:=kc
theorem rowWay:(145:TypeId)<Tryz.prog.types.size:=of_decide_eq_true kc
theorem wideWay:(match Tryz.prog.underlying 145 with | some (.array _ _) | some (.struct _)=>true | _=>false)=true:=kc
theorem keyWay:Keyed Tryz.prog 145:=Keyed.of_law (deep_law_laid laidOut (m:=2) (by omega) rowWay kc wideWay)
abbrev wv (a b:Int):Value:=.agg #[.int .i64 a,.int .i64 b]
def kw (a b:Int):Lit:=.string (keyBytes [.int .i64 a,.int .i64 b])
theorem key_way {a b:Int} (ha:(Lit.int .i64 a).wf=true) (hb:(Lit.int .i64 b).wf=true):keyOf Tryz.prog 145 (wv a b)=some (kw a b):=by
 have kt:Tryz.prog.keyType 145=true:=kc
 have fm:(wv a b).formed Tryz.prog 145=true:=kc
 have c1:Tryz.prog.cellsOf 3=1:=kc
 have c2:Tryz.prog.cellsOf 145=2:=kc
 have kl: ∀ d,Tryz.prog.keyLits (d+2) 145 [.int .i64 a,.int .i64 b]=some [.int .i64 a,.int .i64 b]:=fun d=>by
  simp [Program.keyLits,Tryz.underlying145,Tryz.underlying3,c1,c2,ha,hb]
 have ts: ∃ d,Tryz.prog.types.size+1=d+2:=⟨Tryz.prog.types.size-1,by have:0<Tryz.prog.types.size:=of_decide_eq_true kc;omega⟩
 obtain ⟨d,hd⟩:=ts
 unfold keyOf
 rw [Tryz.underlying145]
 simp only [kt,fm,Bool.and_self,if_true]
 rw [hd]
 show (Tryz.prog.keyLits (d+2) 145 [.int .i64 a,.int .i64 b]).map _=_
 rw [kl];rfl
theorem kw_inj {a b a' b':Int} (ha:(Lit.int .i64 a).wf=true) (hb:(Lit.int .i64 b).wf=true) (ha':(Lit.int .i64 a').wf=true) (hb':(Lit.int .i64 b').wf=true) (e:kw a b=kw a' b'):a=a'/\b=b':=by
 have q:=keyWay.inj (key_way ha hb) (by rw [e];exact key_way ha' hb')
 simpa [wv] using q
theorem zeroI (w:World):(zeroValue 3).run Tryz.prog w=.ok (.int .i64 0) w:=kc
abbrev Wy:=Int->Int->Option Int
def Wy.set (f:Wy) (a b:Int) (o:Option Int):Wy:=fun x y=>if x=a/\y=b then o else f x y
def MapW (w:World) (m n:Nat) (f:Wy):Prop :=
 ∃ D:DataW Unit,w.ownsMap Tryz.prog 145 (plainElem Tryz.prog 3) m n D/\ ∀ a b,(Lit.int .i64 a).wf=true->(Lit.int .i64 b).wf=true->Maps.has D (kw a b)=(f a b).isSome/\D.atKey (kw a b) (.lit (.int .i64 0))=.lit (.int .i64 ((f a b).getD 0))
section
variable {w:World} {m n:Nat} {f:Wy}
theorem MapW.look (h:MapW w m n f) {a b:Int} (ha:(Lit.int .i64 a).wf=true) (hb:(Lit.int .i64 b).wf=true) :
 (Instr.lookup 86 (.map (some m)) (wv a b) false).run Tryz.prog w=.ok (.int .i64 ((f a b).getD 0)) w:=by
 obtain ⟨D,hown,hD⟩:=h
 obtain ⟨v,ps,hrun,hv⟩:=hown.lookup keyWay Tryz.underlying86 (zeroI w) (plainElem_int Tryz.underlying3 kh) (key_way ha hb)
 obtain ⟨x,rfl,hx,_⟩:=plainElem_int_inv Tryz.underlying3 hv
 have e:=congrArg Prod.fst hx
 simp only [(hD a b ha hb).2] at e
 have e2:(f a b).getD 0=x:=by simpa using e
 rw [hrun,e2]
theorem MapW.set (h:MapW w m n f) (hn:n<maxLen) {a b v:Int} (ha:(Lit.int .i64 a).wf=true) (hb:(Lit.int .i64 b).wf=true) (hv:(Lit.int .i64 v).wf=true) :
 ∃ w',(Instr.mapUpdate 86 (.map (some m)) (wv a b) (.int .i64 v)).run Tryz.prog w=.ok () w'/\MapW w' m (n+1) (f.set a b (some v))/\w.grownBy w' (some m):=by
 obtain ⟨D,hown,hD⟩:=h
 have hkey:=key_way ha hb
 obtain ⟨w',hrun,hown',hg⟩:=hown.update keyWay Tryz.underlying86 hn hkey (plainElem_int Tryz.underlying3 hv)
 refine ⟨w',hrun,⟨_,hown',?_⟩,hg⟩
 intro x y hx hy
 unfold Wy.set
 by_cases e:x=a/\y=b
 . obtain ⟨rfl,rfl⟩:=e
   rw [if_pos ⟨rfl,rfl⟩]
   exact ⟨Maps.has_put_same hown.isMap (by trivial) _,Maps.atKey_put_same hown.isMap (by trivial) _ _⟩
 . have ne:kw x y≠kw a b:=fun q=>e (kw_inj hx hy ha hb q)
   rw [if_neg e,Maps.has_put_other ne,Maps.atKey_put_other ne]
   exact hD x y hx hy
theorem MapW.lt (h:MapW w m n f):m<w.heap.size:=by obtain ⟨D,hown,_⟩:=h;exact hown.lt
theorem MapW.block {w':World} (h:MapW w m n f) (hb:w'.heap[m]? =w.heap[m]?):MapW w' m n f:=by
 obtain ⟨D,⟨es,clock,h1,r⟩,hD⟩:=h
 exact ⟨D,⟨es,clock,hb.trans h1,r⟩,hD⟩
theorem MapW.mono (h:MapW w m n f) {n':Nat} (hn:n<=n'):MapW w m n' f:=by
 obtain ⟨D,hown,hD⟩:=h
 exact ⟨D,hown.mono hn,hD⟩
theorem MapW.made (w:World):MapW (w.alloc (.map #[] 0)) w.heap.size 0 (fun _ _=>none) :=
 ⟨.map [],World.ownsMap_made w Tryz.prog 145 _,fun _ _ _ _=>⟨rfl,rfl⟩⟩
theorem MapW.lookok (h:MapW w m n f) {a b:Int} (ha:(Lit.int .i64 a).wf=true) (hb:(Lit.int .i64 b).wf=true) :
 (Instr.lookup 86 (.map (some m)) (wv a b) true).run Tryz.prog w=.ok (.tuple #[.int .i64 ((f a b).getD 0),.bool (f a b).isSome]) w:=by
 obtain ⟨D,hown,hD⟩:=h
 obtain ⟨v,ps,hrun,hv⟩:=hown.look_ok keyWay Tryz.underlying86 (zeroI w) (plainElem_int Tryz.underlying3 kh) (key_way ha hb)
 obtain ⟨x,rfl,hx,_⟩:=plainElem_int_inv Tryz.underlying3 hv
 have e:=congrArg Prod.fst hx
 simp only [(hD a b ha hb).2] at e
 have e2:(f a b).getD 0=x:=by simpa using e
 rw [hrun,(hD a b ha hb).1,e2]
theorem modify_same {α :Type} (es:Array α) (j:Nat) (f: α -> α) (h: ∀ e,es[j]? =some e->f e=e):es.modify j f=es:=by
 apply Array.ext
 . simp
 . intro i h1 h2
   rw [Array.getElem_modify]
   split
   . rename_i e
     subst e
     exact h _ (Array.getElem?_eq_getElem h2)
   . rfl
theorem modify_eq {α :Type} (es:Array α) (j:Nat) (f g: α -> α) (h: ∀ e,es[j]? =some e->f e=g e):es.modify j f=es.modify j g:=by
 apply Array.ext
 . simp
 . intro i h1 h2
   have h3:i<es.size:=by simpa using h1
   rw [Array.getElem_modify,Array.getElem_modify]
   split
   . rename_i e
     subst e
     exact h _ (Array.getElem?_eq_getElem h3)
   . rfl
theorem set_same_heap (w:World) (b:Nat) (o:Obj) (h:w.heap[b]? =some o):({ w with heap:=w.heap.setIfInBounds b o }:World)=w:=by
 have:w.heap.setIfInBounds b o=w.heap:=by
  apply Array.ext
  . simp
  . intro i h1 h2
    rw [Array.getElem_setIfInBounds]
    split
    . rename_i e
      subst e
      rw [Array.getElem?_eq_getElem h2] at h
      exact (sia h).symm
    . rfl
 rw [this]
theorem born_idx {es:Array MapEntry} {clock:Nat} (hs:MapKept.Stamped es clock) {j:Nat} {e:MapEntry} (hj:es[j]? =some e):es.findIdx? (fun x=>(x.born:Int)==(e.born:Int))=some j:=by
 have hl:j<es.size:=(Array.getElem?_eq_some_iff.1 hj).1
 have hj':es[j]=e:=(Array.getElem?_eq_some_iff.1 hj).2
 rw [Array.findIdx?_eq_some_iff_getElem]
 refine ⟨hl,by rw [hj'];simp,?_⟩
 intro k hk
 have hk2:k<es.size:=by omega
 have nd:=((MapKept.stamped_iff es clock).1 hs).2.1
 intro q
 have q1:es[k].born=e.born:=by
  have:((es[k].born:Nat):Int)=(e.born:Int):=by simpa using q
  omega
 have a1:(es.toList.map (·.born))[k]'(by simpa using hk2)=es[k].born:=by simp
 have a2:(es.toList.map (·.born))[j]'(by simpa using hl)=e.born:=by simp [hj']
 have pw:=List.pairwise_iff_getElem.1 nd k j (by simpa using hk2) (by simpa using hl) hk
 exact pw (a1.trans (q1.trans a2.symm))
theorem MapW.there (h:MapW w m n f) {a b:Int} (ha:(Lit.int .i64 a).wf=true) (hb':(Lit.int .i64 b).wf=true) (hf:(f a b).isSome=true) :
 ∃ (es:Array MapEntry) (clk j:Nat) (e:MapEntry),w.heap[m]? =some (.map es clk)/\es[j]? =some e/\e.key=wv a b/\(Instr.mapEntry 86 (.map (some m)) (wv a b)).run Tryz.prog w=.ok (.tuple #[e.val,.int .i64 e.born]) w /\
  ∀ val:Value,(Instr.entryStore 86 (.map (some m)) (.int .i64 e.born) val).run Tryz.prog w=(Instr.mapUpdate 86 (.map (some m)) (wv a b) val).run Tryz.prog w:=by
 have lk:=h.lookok ha hb'
 rw [hf] at lk
 obtain ⟨D,⟨es,clock,hb,F,hs,rfl⟩,hD⟩:=h
 have hkey:=key_way ha hb'
 have hm:=Tryz.underlying86
 have ck:=fun e=>keyWay.check w e hkey
 have st:=keyWay.stays w hkey
 generalize wv a b=kv at *
 rcases keyWay.find w hkey es.toList F.keys with ⟨hr,hne⟩ | ⟨j,e,hr,hj,he⟩
 . exfalso
   simp [Instr.lookup,run_underlying hm,MapKept.run_getObj_map hb,ck,hr,zeroI,Result.andThen] at lk
 . have hj':es[j]? =some e:=by simpa using hj
   refine ⟨es,clock,j,e,hb,hj',he,?_,fun val=> ?_⟩
   . simp [Instr.mapEntry,run_underlying hm,MapKept.run_getObj_map hb,ck,hr,hj',he,st,MapKept.run_setObj_map _ hb,Result.andThen,goInt]
     rw [modify_same es j _ (fun e' h'=>by rw [hj'] at h';cases h';rw [<- he])]
     exact set_same_heap w m _ hb
   . have ix:=born_idx F.stamped hj'
     simp [Instr.mapUpdate,Instr.entryStore,run_underlying hm,MapKept.run_getObj_map hb,ck,hr,hj',he,st,MapKept.run_setObj_map _ hb,Result.andThen,asInt,asIntOf,ix]
     rw [modify_eq es j (fun e'=>{ key:=e'.key,val:=val,born:=e'.born }) (fun e=>{ key:=kv,val:=val,born:=e.born }) (fun e' h'=>by rw [hj'] at h';cases h';simp [he])]
theorem wy_same {f:Wy} {a b:Int} (h:(f a b).isSome=true):f.set a b (some ((f a b).getD 0))=f:=by
 funext x y
 unfold Wy.set
 by_cases e:x=a/\y=b
 . obtain ⟨rfl,rfl⟩:=e
   rw [if_pos ⟨rfl,rfl⟩]
   cases q:f x y with
   | none => rw [q] at h; cases h
   | some v => rfl
 . rw [if_neg e]
theorem MapW.entry (h:MapW w m n f) (hn:n<maxLen) {a b:Int} (ha:(Lit.int .i64 a).wf=true) (hb':(Lit.int .i64 b).wf=true) :
 ∃ (w1:World) (v:Value) (s:Int),(Instr.mapEntry 86 (.map (some m)) (wv a b)).run Tryz.prog w=.ok (.tuple #[v,.int .i64 s]) w1/\MapW w1 m (n+1) (f.set a b (some ((f a b).getD 0)))/\w.grownBy w1 (some m) /\
  ∀ val:Value,(Instr.entryStore 86 (.map (some m)) (.int .i64 s) val).run Tryz.prog w1=(Instr.mapUpdate 86 (.map (some m)) (wv a b) val).run Tryz.prog w1:=by
 by_cases hf:(f a b).isSome=true
 . obtain ⟨es,clk,j,e,_,_,_,h1,h2⟩:=h.there ha hb' hf
   exact ⟨w,_,_,h1,by rw [wy_same hf];exact h.mono (by omega),⟨rfl,rfl,rfl,Nat.le_refl _,fun _ _ _=>rfl⟩,h2⟩
 . have f0:f a b=none:=by cases q:f a b with | none=>rfl | some v=>rw [q] at hf;exact absurd rfl hf
   obtain ⟨w1,hrun,hm1,hg1⟩:=h.set hn (a:=a) (b:=b) (v:=0) ha hb' kh
   have s1:((f.set a b (some 0)) a b).isSome=true:=by unfold Wy.set;rw [if_pos ⟨rfl,rfl⟩];rfl
   obtain ⟨es1,clk1,j1,e1,hb1,hj1,hk1,_,h2⟩:=hm1.there ha hb' s1
   have lk:=h.lookok ha hb'
   rw [f0] at lk
   obtain ⟨D,⟨es,clock,hb,F,hs,rfl⟩,hD⟩:=h
   have hkey:=key_way ha hb'
   have hm:=Tryz.underlying86
   have ck:=fun e=>keyWay.check w e hkey
   have st:=keyWay.stays w hkey
   generalize wv a b=kv at *
   rcases keyWay.find w hkey es.toList F.keys with ⟨hr,hne⟩ | ⟨j,e,hr,hj,he⟩
   . have ew:w1=ChangeMaps.setBlock w m (.map (es.push ⟨kv,.int .i64 0,clock⟩) (clock+1)):=by
      simp [Instr.mapUpdate,run_underlying hm,MapKept.run_getObj_map hb,ck,hr,MapKept.run_setObj_map _ hb,Result.andThen] at hrun
      exact hrun.symm
     have hb2:w1.heap[m]? =some (.map (es.push ⟨kv,.int .i64 0,clock⟩) (clock+1)):=by rw [ew];exact ChangeMaps.heap_setBlock_same hb _
     rw [hb1] at hb2
     have ee:es1=es.push ⟨kv,.int .i64 0,clock⟩:=by cases hb2;rfl
     have be:e1.born=clock:=by
      rw [ee,Array.getElem?_push] at hj1
      split at hj1
      . cases hj1;rfl
      . exfalso
        have q:es.toList[j1]? =some e1:=by simpa using hj1
        exact hne e1 (List.mem_of_getElem? q) hk1
     refine ⟨w1,.int .i64 0,clock,?_,by rw [f0];exact hm1,hg1,fun val=>by rw [<- be];exact h2 val⟩
     simp [Instr.mapEntry,run_underlying hm,MapKept.run_getObj_map hb,ck,hr,zeroI,MapKept.run_setObj_map _ hb,Result.andThen,goInt]
     rw [ew];rfl
   . exfalso
     simp [Instr.lookup,run_underlying hm,MapKept.run_getObj_map hb,ck,hr,zeroI,Result.andThen] at lk
end
def le (c:Nat->Int) (at_:Nat):Nat->Int
 | 0 => 0
 | i + 1 => le c at_ i + c (at_ + i) * 256 ^ i
theorem le_bd {c:Nat->Int} (hc: ∀ i,0<=c i/\c i<256) (a:Nat): ∀ n,0<=le c a n/\le c a n<256 ^ n
 | 0 => by simp [le]
 | n + 1 => by
  have h:=le_bd hc a n
  have h2:=hc (a+n)
  simp only [le]
  have hp:(0:Int)<256 ^ n:=Int.pow_pos (by omega)
  have h3:0<=c (a+n)*256 ^ n:=Int.mul_nonneg h2.1 (by omega)
  have h4:c (a+n)*256 ^ n<=255*256 ^ n:=Int.mul_le_mul_of_nonneg_right (by omega) (by omega)
  rw [Int.pow_succ]
  omega
theorem or_at (k:Nat) (X v:Int) (x0:0<=X) (x1:X<2 ^ k) (v0:0<=v) (hb:v*2 ^ k<=18446744073709551616-2 ^ k):bits .or .u64 X (v*2 ^ k)=X+v*2 ^ k:=by
 have hp:(0:Int)<2 ^ k:=Int.pow_pos (by omega)
 have hm:0<=v*2 ^ k:=Int.mul_nonneg v0 (by omega)
 rw [u64_or _ _ (by omega) (by omega) (by omega) (by omega),Nat.or_comm]
 have e:(v*2 ^ k).toNat=v.toNat*2 ^ k:=by
  rw [<- Int.toNat_natCast (v.toNat*2 ^ k),Int.natCast_mul,Int.natCast_pow,Int.toNat_of_nonneg v0];rfl
 rw [nat_join k (v*2 ^ k).toNat X.toNat (by rw [e,Nat.mul_mod_left]) (by
  have:((2 ^ k:Nat):Int)=2 ^ k:=by rw [Int.natCast_pow];rfl
  omega)]
 omega
theorem pow256 (n:Nat):(2:Int) ^ (8*n)=256 ^ n:=by rw [Int.pow_mul];rfl
theorem or_byte (X v j:Int) (j0:0<=j) (j8:j<8) (x0:0<=X) (x1:X<256 ^ j.toNat) (v0:0<=v) (v1:v<256) :
 bits .or .u64 X (IntKind.u64.wrap (v*2 ^ (8*j).toNat))=X+v*256 ^ j.toNat:=by
 rw [show (8*j).toNat=8*j.toNat by omega,pow256]
 rcases (show j=0\/j=1\/j=2\/j=3\/j=4\/j=5\/j=6\/j=7 by omega) with rfl | rfl | rfl | rfl | rfl | rfl | rfl | rfl
 all_goals
  simp only [Int.reduceToNat,Int.reducePow,Int.mul_one] at *
  rw [IntKind.wrap_u64,Int.emod_eq_of_lt (by omega) (by omega)]
 . have h:=or_at 0 X v (by omega) (by omega) v0 (by omega)
   rw [Int.pow_zero,Int.mul_one] at h;exact h
 . exact or_at 8 X v (by omega) (by omega) v0 (by omega)
 . exact or_at 16 X v (by omega) (by omega) v0 (by omega)
 . exact or_at 24 X v (by omega) (by omega) v0 (by omega)
 . exact or_at 32 X v (by omega) (by omega) v0 (by omega)
 . exact or_at 40 X v (by omega) (by omega) v0 (by omega)
 . exact or_at 48 X v (by omega) (by omega) v0 (by omega)
 . exact or_at 56 X v (by omega) (by omega) v0 (by omega)
def cset (c:Nat->Int) (a m:Nat) (x:Int):Nat->Int:=fun i=>if a<=i/\i<a+m then x / 256 ^ (i-a) % 256 else c i
def Page (w:World) (b:Nat) (c:Nat->Int):Prop:= ∀ i,i<4096->w.cell? ⟨b,i,none⟩=some (.int .u8 (c i))/\w.frozen? ⟨b,i,none⟩=false
theorem Page.set {w:World} {b:Nat} {c c':Nat->Int} (h:Page w b c') {a m:Nat} {x:Int} (hm:a+m<4096) {v:Int} (hv:v=x / 256 ^ m % 256) (hc:Page w b (cset c a m x)) :
 Page (w.setCell ⟨b,a+m,none⟩ (.int .u8 v)) b (cset c a (m+1) x):=by
 intro i hi
 obtain ⟨h1,h2⟩:=hc i hi
 refine ⟨?_,by rw [World.frozen?_setCell];exact h2⟩
 by_cases e:i=a+m
 . subst e
   have:=(hc (a+m) hi).1
   rw [World.cell?_setCell_same' w _ _ (by rw [this];rfl)]
   unfold cset
   rw [if_pos ⟨by omega,by omega⟩,hv,show a+m-a=m by omega]
 . have hne:(⟨b,a+m,none⟩:Addr)≠⟨b,i,none⟩:=by intro k;cases k;omega
   have ho:(w.setCell ⟨b,a+m,none⟩ (.int .u8 v)).cell? ⟨b,i,none⟩=w.cell? ⟨b,i,none⟩:=World.cell?_setCell_other (h:=hne) ..
   rw [ho,h1]
   unfold cset
   by_cases c1:a<=i/\i<a+m
   . rw [if_pos c1,if_pos ⟨by omega,by omega⟩]
   . rw [if_neg c1,if_neg (by omega)]
theorem grown_set {w wr:World} {b:Nat} (h:w.grownBy wr (some b)) (o:Nat) (v:Value):w.grownBy (wr.setCell ⟨b,o,none⟩ v) (some b) :=
 ⟨h.os,h.tape,h.output,by rw [World.size_setCell];exact h.size,fun k hk hne=>by rw [Below.heap_setCell _ _ _ _ (fun e=>hne (by rw [e])),h.block k hk hne]⟩
theorem grown_drew {w wr:World} {row:Option Nat} (h:w.grownBy wr row):w.grownBy wr.drew row:=⟨h.os,h.tape,h.output,h.size,h.block⟩
theorem own_cost (W:World):Calls Tryz.prog 72 #[.int .i64 0] W fun e w'=>e=.returned (.int .i64 1)/\w'=W:=by
 go_enter Tryz.func72,Tryz.ntmps72
 go_wp2_with fail
 go_returns
 exact ⟨rfl,rfl⟩
theorem ways_to (p:Int) (p0:0<=p) (p1:p<34359738368) (W:World):Calls Tryz.prog 73 #[.int .i64 p] W (re (.agg (so 9 (p / 512) 18 (p / 262144) 27 (p / 134217728))) W):=by
 go_enter Tryz.func73,Tryz.ntmps73
 go_wp2_with fail
 refine bodyPost_ret (by simp [results,Tryz.results73,go_sem];try rfl) rfl ?_
 refine ⟨rfl,?_⟩
 exact baa
theorem booted_yes (mb tq:Nat) (W:World) (h:W.cell? ⟨mb,0,none⟩=some (pp tq)):Calls Tryz.prog 17 #[pp mb] W fun e w'=>e=.returned (.bool true)/\w'=W:=by
 go_enter Tryz.func17,Tryz.ntmps17
 go_wp2_with fail
 go_returns
 exact ⟨rfl,rfl⟩
theorem lt_of_cell {w:World} {a:Addr} {v:Value} (h:w.cell? a=some v):a.block<w.heap.size:=bca fun c=>by
 unfold World.cell? at h
 rw [Array.getElem?_eq_none (by omega)] at h
 cases h
theorem page_sets {w:World} {c b:Nat} {B:Nat->Int} (h:Page w c B) (ne:c≠b) (o:Nat) (vs:List Value):Page (w.setCells b o vs) c B:=fun i hi=>by
 have e1:(w.setCells b o vs).cell? ⟨c,i,none⟩=w.cell? ⟨c,i,none⟩:=World.cell?_setCells_out b vs o w ⟨c,i,none⟩ (fun hb _=>absurd hb ne)
 have lc:c<w.heap.size:=lt_of_cell (h i hi).1
 have e2:(w.setCells b o vs).frozen? ⟨c,i,none⟩=w.frozen? ⟨c,i,none⟩:=World.frozen?_of_block ((grown_setCells b vs o w).block c lc (fun e=>ne (sia e)))
 rw [e1,e2];exact h i hi
theorem grown_else {W V U:World} {c b:Nat} (hb:bc W V) (hg:V.grownBy U (some c)) (l:W.heap.size<=b) (o:Nat) (vs:List Value):W.grownBy (U.setCells b o vs) (some c):=by
 have k:=grown_setCells b vs o U
 exact ⟨k.os.trans (hg.os.trans hb.os),k.tape.trans (hg.tape.trans hb.tape),k.output.trans (hg.output.trans hb.output),Nat.le_trans hb.size (Nat.le_trans hg.size k.size),fun j hj hne=>by
  have l1:j<V.heap.size:=nla hj hb.size
  rw [k.block j (nla l1 hg.size) (fun e=>by have:=sia e;omega),hg.block j l1 hne,hb.block j hj]⟩
theorem move_store (c:Nat) (B:Nat->Int) (k1 k2:Int) (k3 k4 k5:Bool) (ad sz x k6 k7 k8 k9:Int) (W:World) (hp:Page W c B) (lc:c<W.heap.size) (a0:0<=ad) (a1:ad<140737488355328) (s0:0<=sz) (s8:sz<=8) (am:ad % 4096+sz<=4096) (x0:0<=x) (x1:x<18446744073709551616) :
 Calls Tryz.prog 57 #[pp c,.agg (sq 5 k1 k2 k3 k4 k5 ad sz x k6 k7 k8 k9)] W fun e w'=>e=.returned (.agg sl1)/\Page w' c (cset B (ad % 4096).toNat sz.toNat x)/\W.grownBy w' (some c):=by
 obtain ⟨a,ha⟩: ∃ a:Int,ad % 4096=a:=⟨_,rfl⟩
 rw [ha] at am |-
 have p0:0<=a:=by omega
 have s1:(W.alloc (.cells (sq 5 k1 k2 k3 k4 k5 ad sz x k6 k7 k8 k9) 70)).heap.size=W.heap.size+1:=World.size_alloc _ _
 have G0:Hid (bc W ((W.alloc (.cells (sq 5 k1 k2 k3 k4 k5 ad sz x k6 k7 k8 k9) 70)).alloc (.cells sl1 36))/\Blk ((W.alloc (.cells (sq 5 k1 k2 k3 k4 k5 ad sz x k6 k7 k8 k9) 70)).alloc (.cells sl1 36)) W.heap.size (su 5 k1 k2 k3 k4 k5 ad sz x k6 k7 k8 k9) 70/\Blk ((W.alloc (.cells (sq 5 k1 k2 k3 k4 k5 ad sz x k6 k7 k8 k9) 70)).alloc (.cells sl1 36)) (W.heap.size+1) sm1 36/\Page ((W.alloc (.cells (sq 5 k1 k2 k3 k4 k5 ad sz x k6 k7 k8 k9) 70)).alloc (.cells sl1 36)) c B/\c<W.heap.size):=by
  have bb:bc W ((W.alloc (.cells (sq 5 k1 k2 k3 k4 k5 ad sz x k6 k7 k8 k9) 70)).alloc (.cells sl1 36)):=Go.Joins.below_alloc2 _ _ _
  refine ⟨bb,(Blk.made _ _ _).below baa,by rw [<- s1];exact Blk.made _ _ _,fun i hi=> ?_,lc⟩
  have e:=bb.block c lc
  rw [World.cell?_of_block e,World.frozen?_of_block e];exact hp i hi
 clear hp lc s1
 go_enter Tryz.func57,Tryz.ntmps57
 go_upto_region 3 with fail
 rw [ha]
 clear ha a0 a1
 generalize ((W.alloc (.cells (sq 5 k1 k2 k3 k4 k5 ad sz x k6 k7 k8 k9) 70)).alloc (.cells sl1 36))=V0 at G0 |-
 obtain ⟨b2,hb2⟩: ∃ b2,b2=W.heap.size+1:=⟨_,rfl⟩
 obtain ⟨b1,hb1⟩: ∃ b1,b1=W.heap.size:=⟨_,rfl⟩
 have G1:Hid (bc W V0/\Blk V0 b1 (su 5 k1 k2 k3 k4 k5 ad sz x k6 k7 k8 k9) 70/\Blk V0 b2 sm1 36/\Page V0 c B/\(c≠b1/\c≠b2/\W.heap.size<=b2)):=by
  rw [hb2,hb1];have:=G0.out.2.2.2.2;exact ⟨G0.out.1,G0.out.2.1,G0.out.2.2.1,G0.out.2.2.2.1,by omega,by omega,by omega⟩
 rw [<- hb2,<- hb1]
 clear hb1 hb2 G0
 have x7:V0.cell? ⟨b1,7,none⟩=some (.int .i64 sz):=G1.out.2.1.cell 7
 go_wp2_with fail
 go_loopw [6,7,14] (fun xv _ jv V=> ∃ j:Int,xv=.int .u64 0/\jv=.int .i64 j/\Hid (0<=j/\j<=sz)/\Hid (Page V c (cset B a.toNat j.toNat x)/\V0.grownBy V (some c))) (fun _ _ jv _=>(sz-intOf jv).toNat)
 case atStart =>
  refine ⟨0,rfl,rfl,⟨by omega,s0⟩,?_,⟨rfl,rfl,rfl,Nat.le_refl _,fun _ _ _=>rfl⟩⟩
  intro i hi;have:=G1.out.2.2.2.1 i hi;unfold cset;rw [if_neg (by omega)];exact this
 case round =>
  clear x7
  obtain ⟨j,rfl,rfl,hj,hr⟩:=hrel
  obtain ⟨j0,j1⟩:=hj.out
  have C1:Blk wr b1 (su 5 k1 k2 k3 k4 k5 ad sz x k6 k7 k8 k9) 70:=(hr.out.2.block _ G1.out.2.1.lt (fun e=>G1.out.2.2.2.2.1 (sia e).symm)).trans G1.out.2.1
  have C2:Blk wr b2 sm1 36:=(hr.out.2.block _ G1.out.2.2.1.lt (fun e=>G1.out.2.2.2.2.2.1 (sia e).symm)).trans G1.out.2.2.1
  by_cases cj:j<sz
  . have d1:decide (j<sz)=true:=by simp;omega
    obtain ⟨u,hu⟩: ∃ u:Int,cset B a.toNat j.toNat x (a+j).toNat=u:=⟨_,rfl⟩
    have hcl:=hr.out.1 (a+j).toNat (by omega)
    rw [hu] at hcl
    obtain ⟨hcell,hfroz⟩:=hcl
    have HP:Hid (Page (wr.setCell ⟨c,(a+j).toNat,none⟩ (.int .u8 (x / 2 ^ (8*j).toNat % 256))) c (cset B a.toNat (j+1).toNat x)/\V0.grownBy (wr.setCell ⟨c,(a+j).toNat,none⟩ (.int .u8 (x / 2 ^ (8*j).toNat % 256))) (some c)):=by
     refine ⟨?_,grown_set hr.out.2 _ _⟩
     rw [show (a+j).toNat=a.toNat+j.toNat by omega,show (j+1).toNat=j.toNat+1 by omega]
     exact Page.set hr.out.1 (by omega) (by rw [show (8*j).toNat=8*j.toNat by omega,pow256]) hr.out.1
    have y0:wr.cell? ⟨b1,0,none⟩=some (.int .i64 5):=C1.cell 0
    have y8:wr.cell? ⟨b1,8,none⟩=some (.int .u64 x):=C1.cell 8
    have HJ:Hid (0<=j+1/\j+1<=sz/\j<sz):=⟨by omega,by omega,cj⟩
    clear hu hr hj C1 C2
    go_wp2
    go_region
    go_wp2
    go_roundw
    case rel=>exact ⟨j+1,rfl,rfl,⟨HJ.out.1,HJ.out.2.1⟩,⟨fun i hi=>HP.out.1 i hi,grown_drew HP.out.2⟩⟩
    case measure=>have:=HJ.out;simp [intOf];omega
  . have d1:decide (j<sz)=false:=by simp;omega
    have e:j=sz:=by omega
    subst e
    have q0:wr.cell? ⟨b2,0,none⟩=some (.int .i64 0):=C2.cell 0
    have f0:wr.frozen? ⟨b2,0,none⟩=false:=C2.free 0
    have q1:wr.cell? ⟨b2,1,none⟩=some (.int .u64 0):=C2.cell 1
    have f1:wr.frozen? ⟨b2,1,none⟩=false:=C2.free 1
    have q2:wr.cell? ⟨b2,2,none⟩=some (.int .i64 0):=C2.cell 2
    have f2:wr.frozen? ⟨b2,2,none⟩=false:=C2.free 2
    have q3:wr.cell? ⟨b2,3,none⟩=some (.int .u64 0):=C2.cell 3
    have f3:wr.frozen? ⟨b2,3,none⟩=false:=C2.free 3
    have q4:wr.cell? ⟨b2,4,none⟩=some (.int .i64 0):=C2.cell 4
    have f4:wr.frozen? ⟨b2,4,none⟩=false:=C2.free 4
    have q5:wr.cell? ⟨b2,5,none⟩=some (.bool false):=C2.cell 5
    have f5:wr.frozen? ⟨b2,5,none⟩=false:=C2.free 5
    have HE:Hid (Page wr c (cset B a.toNat j.toNat x)/\V0.grownBy wr (some c)/\Blk wr b2 sm1 36):=⟨hr.out.1,hr.out.2,C2⟩
    clear hr hj C1 C2
    go_wp2_with fail
    have RG:(World.setCells wr b2 0 sm1).rangeAt b2 0 sm1:=(Blk.put (cs:=sm1) HE.out.2.2 rfl).range
    have LV:(loadVar 36 ⟨b2,0,none⟩).run Tryz.prog (World.setCells wr b2 0 sm1)=.ok (.agg sl1) (World.setCells wr b2 0 sm1):=run_loadVar_mid (P:=Tryz.prog) _ b2 0 36 sm1 _ RG Tryz.underlying36 rfl kc
    change bodyPost _ _ _ _ _ (World.setCells wr b2 0 sm1)
    refine bodyPost_ret (v:=.agg sl1) (results_one Tryz.results57 _ _ _ ⟨b2,0,none⟩ _ rfl LV) rfl ?_
    exact ⟨rfl,page_sets HE.out.1 (by have:=G1.out.2.2.2.2;omega) _ _,grown_else (G1.out.1) HE.out.2.1 (by have:=G1.out.2.2.2.2;omega) _ _⟩
theorem move_load (c:Nat) (B:Nat->Int) (k1 k2:Int) (k3 k4 k5:Bool) (ad sz x k6 k7 k8 k9:Int) (W:World) (hp:Page W c B) (hB: ∀ i,0<=B i/\B i<256) (lc:c<W.heap.size) (a0:0<=ad) (a1:ad<140737488355328) (s0:0<=sz) (s8:sz<=8) (am:ad % 4096+sz<=4096) :
 Calls Tryz.prog 57 #[pp c,.agg (sq 4 k1 k2 k3 k4 k5 ad sz x k6 k7 k8 k9)] W (re (.agg (sw 0 (le B (ad % 4096).toNat sz.toNat) 0 0 0 false)) W):=by
 obtain ⟨a,ha⟩: ∃ a:Int,ad % 4096=a:=⟨_,rfl⟩
 rw [ha] at am |-
 obtain ⟨RES,hRES⟩: ∃ RES:Int,RES=le B a.toNat sz.toNat:=⟨_,rfl⟩
 rw [<- hRES]
 have HRES:Hid (RES=le B a.toNat sz.toNat):=hRES
 clear hRES
 have p0:0<=a:=by omega
 have s1:(W.alloc (.cells (sq 4 k1 k2 k3 k4 k5 ad sz x k6 k7 k8 k9) 70)).heap.size=W.heap.size+1:=World.size_alloc _ _
 have G0:Hid (bc W ((W.alloc (.cells (sq 4 k1 k2 k3 k4 k5 ad sz x k6 k7 k8 k9) 70)).alloc (.cells sl1 36))/\Blk ((W.alloc (.cells (sq 4 k1 k2 k3 k4 k5 ad sz x k6 k7 k8 k9) 70)).alloc (.cells sl1 36)) W.heap.size (su 4 k1 k2 k3 k4 k5 ad sz x k6 k7 k8 k9) 70/\Blk ((W.alloc (.cells (sq 4 k1 k2 k3 k4 k5 ad sz x k6 k7 k8 k9) 70)).alloc (.cells sl1 36)) (W.heap.size+1) sm1 36/\Page ((W.alloc (.cells (sq 4 k1 k2 k3 k4 k5 ad sz x k6 k7 k8 k9) 70)).alloc (.cells sl1 36)) c B/\c<W.heap.size):=by
  have bb:bc W ((W.alloc (.cells (sq 4 k1 k2 k3 k4 k5 ad sz x k6 k7 k8 k9) 70)).alloc (.cells sl1 36)):=Go.Joins.below_alloc2 _ _ _
  refine ⟨bb,(Blk.made _ _ _).below baa,by rw [<- s1];exact Blk.made _ _ _,fun i hi=> ?_,lc⟩
  have e:=bb.block c lc
  rw [World.cell?_of_block e,World.frozen?_of_block e];exact hp i hi
 clear hp lc s1
 go_enter Tryz.func57,Tryz.ntmps57
 go_upto_region 3 with fail
 rw [ha]
 clear ha a0 a1
 generalize ((W.alloc (.cells (sq 4 k1 k2 k3 k4 k5 ad sz x k6 k7 k8 k9) 70)).alloc (.cells sl1 36))=V0 at G0 |-
 obtain ⟨b2,hb2⟩: ∃ b2,b2=W.heap.size+1:=⟨_,rfl⟩
 obtain ⟨b1,hb1⟩: ∃ b1,b1=W.heap.size:=⟨_,rfl⟩
 have G1:Hid (bc W V0/\Blk V0 b1 (su 4 k1 k2 k3 k4 k5 ad sz x k6 k7 k8 k9) 70/\Blk V0 b2 sm1 36/\Page V0 c B/\(c≠b1/\c≠b2/\W.heap.size<=b2)):=by
  rw [hb2,hb1];have:=G0.out.2.2.2.2;exact ⟨G0.out.1,G0.out.2.1,G0.out.2.2.1,G0.out.2.2.2.1,by omega,by omega,by omega⟩
 rw [<- hb2,<- hb1]
 clear hb1 hb2 G0
 have x7:V0.cell? ⟨b1,7,none⟩=some (.int .i64 sz):=G1.out.2.1.cell 7
 have y0:V0.cell? ⟨b1,0,none⟩=some (.int .i64 4):=G1.out.2.1.cell 0
 go_wp2_with fail
 go_loopw [6,7,14] (fun xv _ jv V=> ∃ j:Int,xv=.int .u64 (le B a.toNat j.toNat)/\jv=.int .i64 j/\Hid (0<=j/\j<=sz)/\V=V0) (fun _ _ jv _=>(sz-intOf jv).toNat)
 case atStart=>exact ⟨0,rfl,rfl,⟨by omega,s0⟩,rfl⟩
 case round =>
  clear x7
  obtain ⟨j,rfl,rfl,hj,hv⟩:=hrel
  have hv2:=hv.symm
  subst hv2
  clear hv
  obtain ⟨j0,j1⟩:=hj.out
  by_cases cj:j<sz
  . have d1:decide (j<sz)=true:=by simp;omega
    have HJ:Hid (0<=j+1/\j+1<=sz/\j<sz):=⟨by omega,by omega,cj⟩
    have j8:j<8:=by omega
    have aj:(a+j).toNat<4096:=by omega
    have e3:(j+1).toNat=j.toNat+1:=by omega
    have e4:a.toNat+j.toNat=(a+j).toNat:=by omega
    obtain ⟨X,hX⟩: ∃ X:Int,le B a.toNat j.toNat=X:=⟨_,rfl⟩
    rw [hX]
    obtain ⟨v,hv⟩: ∃ v:Int,B (a+j).toNat=v:=⟨_,rfl⟩
    have hcell:V0.cell? ⟨c,(a+j).toNat,none⟩=some (.int .u8 v):=by rw [<- hv];exact (G1.out.2.2.2.1 _ aj).1
    have hvb:0<=v/\v<256:=by rw [<- hv];exact hB _
    obtain ⟨v0,v1⟩:=hvb
    have hnext:le B a.toNat (j+1).toNat=X+v*256 ^ j.toNat:=by
     rw [e3]
     simp only [le]
     rw [hX,e4,hv]
    have hXb:=le_bd hB a.toNat j.toNat
    rw [hX] at hXb
    have HN:Hid (le B a.toNat (j+1).toNat=X+v*256 ^ j.toNat/\0<=X/\X<256 ^ j.toNat):=⟨hnext,hXb.1,hXb.2⟩
    have hor:bits .or .u64 X (IntKind.u64.wrap (v*2 ^ (8*j).toNat))=X+v*256 ^ j.toNat:=or_byte X v j j0 j8 HN.out.2.1 HN.out.2.2 v0 v1
    clear hXb hX hv hnext hj hB e3 e4 aj j8
    go_wp2
    go_roundw
    case rel=>exact ⟨j+1,by rw [HN.out.1],rfl,⟨HJ.out.1,HJ.out.2.1⟩,by first | rfl | trivial⟩
    case measure=>have:=HJ.out;simp [intOf];omega
  . have d1:decide (j<sz)=false:=by simp;omega
    have e:j=sz:=by omega
    subst e
    rw [<- HRES.out]
    have C2:=G1.out.2.2.1
    have q0:V0.cell? ⟨b2,0,none⟩=some (.int .i64 0):=C2.cell 0
    have f0:V0.frozen? ⟨b2,0,none⟩=false:=C2.free 0
    have q1:V0.cell? ⟨b2,1,none⟩=some (.int .u64 0):=C2.cell 1
    have f1:V0.frozen? ⟨b2,1,none⟩=false:=C2.free 1
    have q2:V0.cell? ⟨b2,2,none⟩=some (.int .i64 0):=C2.cell 2
    have f2:V0.frozen? ⟨b2,2,none⟩=false:=C2.free 2
    have q3:V0.cell? ⟨b2,3,none⟩=some (.int .u64 0):=C2.cell 3
    have f3:V0.frozen? ⟨b2,3,none⟩=false:=C2.free 3
    have q4:V0.cell? ⟨b2,4,none⟩=some (.int .i64 0):=C2.cell 4
    have f4:V0.frozen? ⟨b2,4,none⟩=false:=C2.free 4
    have q5:V0.cell? ⟨b2,5,none⟩=some (.bool false):=C2.cell 5
    have f5:V0.frozen? ⟨b2,5,none⟩=false:=C2.free 5
    have HE:Hid (Blk V0 b2 sm1 36):=C2
    clear hj C2 HRES
    go_wp2_with fail
    have RG:(World.setCells V0 b2 0 (sx 0 RES 0 0 0 false)).rangeAt b2 0 (sx 0 RES 0 0 0 false):=(Blk.put (cs:=(sx 0 RES 0 0 0 false)) HE.out rfl).range
    have LV:(loadVar 36 ⟨b2,0,none⟩).run Tryz.prog (World.setCells V0 b2 0 (sx 0 RES 0 0 0 false))=.ok (.agg (sw 0 RES 0 0 0 false)) (World.setCells V0 b2 0 (sx 0 RES 0 0 0 false)):=run_loadVar_mid (P:=Tryz.prog) _ b2 0 36 (sx 0 RES 0 0 0 false) _ RG Tryz.underlying36 rfl kc
    change bodyPost _ _ _ _ _ (World.setCells V0 b2 0 (sx 0 RES 0 0 0 false))
    refine bodyPost_ret (v:=.agg (sw 0 RES 0 0 0 false)) (results_one Tryz.results57 _ _ _ ⟨b2,0,none⟩ _ rfl LV) rfl ?_
    exact ⟨rfl,below_put G1.out.1 G1.out.2.2.2.2.2.2 _⟩
def Md (W:World) (mb tq tb pm:Nat):Prop:=W.cell? ⟨mb,0,none⟩=some (pp tq)/\W.cell? ⟨mb,1,none⟩=some (pp tb)/\W.cell? ⟨mb,1538,none⟩=some (.map (some pm))/\mb<W.heap.size
theorem Md.block {W W':World} {mb tq tb pm:Nat} (h:Md W mb tq tb pm) (hs:W.heap.size<=W'.heap.size) (e:W'.heap[mb]? =W.heap[mb]?):Md W' mb tq tb pm :=
 ⟨(World.cell?_of_block e).trans h.1,(World.cell?_of_block e).trans h.2.1,(World.cell?_of_block e).trans h.2.2.1,nla h.2.2.2 hs⟩
theorem Md.below {W W':World} {mb tq tb pm:Nat} (h:Md W mb tq tb pm) (hb:bc W W'):Md W' mb tq tb pm:=h.block hb.size (hb.block _ h.2.2.2)
def zz (o:Option Int):Int:=if o.getD 0=0 then 1 else 0
def wayAt (n1 n2 n3:Int) (G:Wy):Nat->Option Int
 | 0 => G 9 n1
 | 1 => G 18 n2
 | _ => G 27 n3
def bump (G:Wy) (a b:Int):Wy:=(G.set a b (some ((G a b).getD 0))).set a b (some ((G a b).getD 0+1))
def bumpN (n1 n2 n3:Int) (G:Wy):Nat->Wy
 | 0 => G
 | 1 => bump G 9 n1
 | 2 => bump (bump G 9 n1) 18 n2
 | _ => bump (bump (bump G 9 n1) 18 n2) 27 n3
theorem tree_block {w w':World} {b:Nat} {T:Nat->Qo.Nd} (h:Qo.IsTree w b T) (hs:w.heap.size<=w'.heap.size) (e:w'.heap[b]? =w.heap[b]?):Qo.IsTree w' b T:=by
 obtain ⟨h1,h2,h3⟩:=h
 refine ⟨fun i hi j v hv=>(World.cell?_of_block e).trans (h1 i hi j v hv),fun j hj=> ?_,nla h3 hs⟩
 rw [World.cell?_of_block (a:=⟨b,0+j,none⟩) e,World.frozen?_of_block (a:=⟨b,0+j,none⟩) e];exact h2 j hj
theorem zz_bd (o:Option Int):0<=zz o/\zz o<=1:=by unfold zz;split <;> omega
end
end Go.Proofs.YtokpmclmdobgeaaGreat.Fl
