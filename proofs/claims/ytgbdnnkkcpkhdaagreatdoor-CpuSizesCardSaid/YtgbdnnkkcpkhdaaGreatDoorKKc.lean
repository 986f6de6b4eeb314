import Derived.Test.YtgbdnnkkcpkhdaaGreatDoorKZc
import Derived.Test.YtgbdnnkkcpkhdaaGreatDoorChecked
import Derived.WalkKit
import Derived.ProofKit
import Derived.OpenShut
import Derived.Carry
import Derived.Lib.SmallJoins
import Derived.Deep.Light
import Derived.Deep.MidRow
import Derived.Deep.RegionHeld3
import Derived.Deep.DrawnRows
import Derived.Handy
import Derived.Laws.MakeOwn
import Derived.MapKept
import Derived.Laws.Tables
import Derived.Maps.OwnSet
import Derived.Maps.OwnOps
import Derived.Deep.Slices
set_option linter.unusedSimpArgs false
set_option linter.unusedVariables false
set_option maxRecDepth 8000
set_option maxHeartbeats 1000000
open Go.ChangeShapes Go.WideShapes Go.ChangeAt Go.RowKit Go.Maps
namespace Go.Proofs.YtgbdnnkkcpkhdaaGreatDoor.Pc
theorem below_new {w w':World} (h:bc w w') (o:Obj):bc w (w'.alloc o):=h.alloc h.size o
theorem own1 (w:World) (o:Obj):(w.alloc o).heap[w.heap.size]? =some o:=(MapKept.heap_alloc w o).1
theorem blk_lt {w:World} {b:Nat} {o:Obj} (h:w.heap[b]? =some o):b<w.heap.size:=(Array.getElem?_eq_some_iff.1 h).1
theorem grownBy_alloc1 (w:World) (o:Obj):w.grownBy (w.alloc o) none:=World.grownBy_alloc w o none
theorem wf64 {k:Int} (h0: -9223372036854775808<=k) (h1:k<=9223372036854775807):(Lit.int .i64 k).wf=true:=by
 simp [Lit.wf,IntKind.min,IntKind.max,IntKind.signed,IntKind.bits];omega
theorem keyLaw:Keyed Tryz.prog 3:=int_keyed Tryz.underlying3
theorem zeroI (w:World):(zeroValue 3).run Tryz.prog w=.ok (.int .i64 0) w:=ka
def MapC (w:World) (b n c:Nat) (f:Int->Option Int):Prop :=
 ∃ D:DataW Unit,w.ownsMap Tryz.prog 3 (plainElem Tryz.prog 3) b n D/\Maps.size D=c/\ ∀ k,Maps.has D (.int .i64 k)=(f k).isSome/\D.atKey (.int .i64 k) (.lit (.int .i64 0))=.lit (.int .i64 ((f k).getD 0))
def setF (f:Int->Option Int) (k:Int) (o:Option Int):Int->Option Int:=fun j=>if j=k then o else f j
theorem set_same (f:Int->Option Int) (k:Int) (o:Option Int):setF f k o k=o:=if_pos rfl
theorem set_other (f:Int->Option Int) (k:Int) (o:Option Int) (j:Int) (h:j≠k):setF f k o j=f j:=if_neg h
def noneF:Int->Option Int:=fun _=>none
variable {w:World} {b n c:Nat} {f:Int->Option Int}
theorem MapC.look (h:MapC w b n c f) {k:Int} (hk:(Lit.int .i64 k).wf=true) :
 (Instr.lookup 31 (.map (some b)) (.int .i64 k) true).run Tryz.prog w=.ok (.tuple #[.int .i64 ((f k).getD 0),.bool (f k).isSome]) w:=by
 obtain ⟨D,hown,_,hD⟩:=h
 obtain ⟨v,ps,hrun,hv⟩:=hown.look_ok keyLaw Tryz.underlying31 (zeroI w) (plainElem_int Tryz.underlying3 (by decide)) (keyOf_int_mk Tryz.underlying3 hk)
 obtain ⟨x,rfl,hx,_⟩:=plainElem_int_inv Tryz.underlying3 hv
 have e:=congrArg Prod.fst hx
 simp only [(hD k).2] at e
 have e2:(f k).getD 0=x:=by simpa using e
 rw [hrun,(hD k).1,e2]
theorem MapC.set (h:MapC w b n c f) (hn:n<maxLen) {k v:Int} (hk:(Lit.int .i64 k).wf=true) (hv:(Lit.int .i64 v).wf=true) :
 ∃ w',(Instr.mapUpdate 31 (.map (some b)) (.int .i64 k) (.int .i64 v)).run Tryz.prog w=.ok () w'/\MapC w' b (n+1) (if (f k).isSome=true then c else c+1) (setF f k (some v))/\w.grownBy w' (some b):=by
 obtain ⟨D,hown,hc,hD⟩:=h
 have hkey:=keyOf_int_mk Tryz.underlying3 hk
 obtain ⟨w',hrun,hown',hg⟩:=hown.update keyLaw Tryz.underlying31 hn hkey (plainElem_int Tryz.underlying3 hv)
 refine ⟨w',hrun,⟨_,hown',?_,?_⟩,hg⟩
 . rw [Maps.size_put (hown.tidy keyLaw),(hD k).1,hc]
 . intro j
   by_cases e:j=k
   . subst e
     rw [set_same]
     exact ⟨Maps.has_put_same hown.isMap (by trivial) _,Maps.atKey_put_same hown.isMap (by trivial) _ _⟩
   . have ne:(Lit.int .i64 j)≠ .int .i64 k:=by intro q;cases q;exact e rfl
     rw [set_other _ _ _ _ e,Maps.has_put_other ne,Maps.atKey_put_other ne]
     exact hD j
theorem MapC.clear (h:MapC w b n c f) (ty:TypeId) :
 ∃ w',(Builtin.clear_ #[31] ty #[.map (some b)]).run Tryz.prog w=.ok (.tuple #[]) w'/\MapC w' b n 0 noneF/\w.grownBy w' (some b):=by
 obtain ⟨D,⟨es,clock,hb,F,hs,rfl⟩,hc,hD⟩:=h
 refine ⟨ChangeMaps.setBlock w b (.map #[] clock),?_,⟨.map [],⟨#[],clock,ChangeMaps.heap_setBlock_same hb _,⟨by simp,MapKept.stamped_empty clock,by simp⟩,by simp,rfl⟩,rfl,fun k=>⟨rfl,rfl⟩⟩,⟨rfl,rfl,rfl,by simp [ChangeMaps.setBlock],fun i _ hi=>ChangeMaps.heap_setBlock_other hb _ (fun e=>hi (by rw [e]))⟩⟩
 simp [Builtin.clear_,run_underlying Tryz.underlying31,MapKept.run_getObj_map hb,MapKept.run_setObj_map _ hb,Result.andThen]
 rfl
theorem MapC.kept {w':World} {row:Option Nat} (h:MapC w b n c f) (hg:w.grownBy w' row) (hne:some b≠row):MapC w' b n c f:=by
 obtain ⟨D,hown,hD⟩:=h
 exact ⟨D,hown.kept hg hne,hD⟩
theorem MapC.lt (h:MapC w b n c f):b<w.heap.size:=by obtain ⟨D,hown,_⟩:=h;exact hown.lt
theorem MapC.mono (h:MapC w b n c f) {n':Nat} (hn:n<=n'):MapC w b n' c f:=by
 obtain ⟨D,hown,hD⟩:=h
 exact ⟨D,hown.mono hn,hD⟩
theorem MapC.made (w:World):MapC (w.alloc (.map #[] 0)) w.heap.size 0 0 noneF :=
 ⟨.map [],World.ownsMap_made w Tryz.prog 3 _,rfl,fun _=>⟨rfl,rfl⟩⟩
theorem MapC.block {w':World} (h:MapC w b n c f) (hb:w'.heap[b]? =w.heap[b]?):MapC w' b n c f:=by
 obtain ⟨D,⟨es,clock,h1,r⟩,hD⟩:=h
 exact ⟨D,⟨es,clock,hb.trans h1,r⟩,hD⟩
def MapI (w:World) (b n:Nat) (f:Int->Option Int):Prop:= ∃ c,MapC w b n c f
structure Kp (x y z:Nat) (w w':World):Prop where
 os:w'.os=w.os
 tape:w'.tape=w.tape
 output:w'.output=w.output
 size:w.heap.size<=w'.heap.size
 block: ∀ k,k<w.heap.size->k≠x->k≠y->k≠z->w'.heap[k]? =w.heap[k]?
theorem Kp.refl (x y z:Nat) (w:World):Kp x y z w w:=⟨rfl,rfl,rfl,Nat.le_refl _,fun _ _ _ _ _=>rfl⟩
theorem Kp.trans {x y z:Nat} {a b c:World} (h:Kp x y z a b) (k:Kp x y z b c):Kp x y z a c :=
 ⟨k.os.trans h.os,k.tape.trans h.tape,k.output.trans h.output,Nat.le_trans h.size k.size,fun j hj h1 h2 h3=>(k.block j (nla hj h.size) h1 h2 h3).trans (h.block j hj h1 h2 h3)⟩
theorem Kp.grown {x y z:Nat} {a b:World} {r:Nat} (h:a.grownBy b (some r)) (hr:r=x\/r=y\/r=z):Kp x y z a b :=
 ⟨h.os,h.tape,h.output,h.size,fun j hj h1 h2 h3=>h.block j hj (fun e=>by have:=sia e;omega)⟩
theorem Kp.drew {x y z:Nat} {a b:World} (h:Kp x y z a b):Kp x y z a b.drew:=⟨h.os,h.tape,h.output,h.size,h.block⟩
theorem grown_setCell1 (w:World) (b o:Nat) (v:Value):w.grownBy (w.setCell ⟨b,o,none⟩ v) (some b):=by
 have h:Below 0 w (w.setCell ⟨b,o,none⟩ v):=(Below.refl 0 w).setCell (Nat.zero_le _) v
 exact ⟨h.os,h.tape,h.output,h.size,fun k hk hne=>Below.heap_setCell _ _ _ _ (fun e=>hne (by rw [show k=b from e]))⟩
structure Tg where
 most:Int
 next:Int
 gen:Int
 T:Int->Option Int
 O:Int->Option Int
structure IsTags (w:World) (tb mb ob n:Nat) (S:Tg):Prop where
 blk:w.heap[tb]? =some (.cells #[.int .i64 S.most,.int .i64 S.next,.int .i64 S.gen,.map (some mb),.map (some ob)] 184 (0,0))
 tags:MapI w mb n S.T
 owns:MapI w ob n S.O
 ne1:mb≠ob
 ne2:tb≠mb
 ne3:tb≠ob
theorem IsTags.kept {w w':World} {tb mb ob n:Nat} {S:Tg} (h:IsTags w tb mb ob n S) (hb: ∀ k,k<w.heap.size->(k=tb\/k=mb\/k=ob)->w'.heap[k]? =w.heap[k]?):IsTags w' tb mb ob n S:=by
 obtain ⟨h1,⟨c,h2⟩,⟨d,h3⟩,n1,n2,n3⟩:=h
 exact ⟨(hb tb (blk_lt h1) (by omega)).trans h1,⟨c,h2.block (hb mb h2.lt (by omega))⟩,⟨d,h3.block (hb ob h3.lt (by omega))⟩,n1,n2,n3⟩
theorem IsTags.below {w w':World} {tb mb ob n:Nat} {S:Tg} (h:IsTags w tb mb ob n S) (hb:bc w w'):IsTags w' tb mb ob n S:=h.kept (fun k hk _=>hb.block k hk)
theorem IsTags.mono {w:World} {tb mb ob n n':Nat} {S:Tg} (h:IsTags w tb mb ob n S) (hn:n<=n'):IsTags w tb mb ob n' S:=by
 obtain ⟨h1,⟨c,h2⟩,⟨d,h3⟩,n1,n2,n3⟩:=h
 exact ⟨h1,⟨c,h2.mono hn⟩,⟨d,h3.mono hn⟩,n1,n2,n3⟩
theorem IsTags.cell {w:World} {tb mb ob n:Nat} {S:Tg} (h:IsTags w tb mb ob n S) (i:Nat):w.cell? ⟨tb,i,none⟩= #[.int .i64 S.most,.int .i64 S.next,.int .i64 S.gen,.map (some mb),.map (some ob)][i]? :=Go.Joins.cell_of_block h.blk i
def Own (w W:World) (tb mb ob n:Nat) (S:Tg):Prop:=IsTags W tb mb ob n S/\bc w W/\w.heap.size<=tb/\w.heap.size<=mb/\w.heap.size<=ob
end Go.Proofs.YtgbdnnkkcpkhdaaGreatDoor.Pc
namespace Go.Proofs.YtgbdnnkkcpkhdaaGreatDoor.Pc
def freshS (most:Int):Tg:=⟨most,1,0,noneF,noneF⟩
theorem new_ok (m:Int) (h0:1<=m) (h1:m<=4095) (w:World):Calls Tryz.prog 42 #[.int .i64 m] w fun e w'=>e=.returned (.tuple #[.pointer (some ⟨w.heap.size+2,0,none⟩),.int .i64 0])/\Own w w' (w.heap.size+2) w.heap.size (w.heap.size+1) 0 (freshS m):=by
 have e1:decide (m<1)=false:=kh
 have e2:decide (4095<m)=false:=kh
 have hmm:= @run_makeMap Tryz.prog
 go_enter Tryz.func42,Tryz.ntmps42
 go_wp2_with fail
 go_returns
 refine ⟨rfl,⟨?_,⟨0,?_⟩,⟨0,?_⟩,by omega,by omega,by omega⟩,?_,by omega,by omega,by omega⟩
 . have:=own1 ((w.alloc (.map #[] 0)).alloc (.map #[] 0)) (.cells #[.int .i64 m,.int .i64 1,.int .i64 0,.map (some w.heap.size),.map (some (w.heap.size+1))] 184 (0,0))
   simp only [World.size_alloc] at this
   exact this
 . exact (((MapC.made w).kept (grownBy_alloc1 _ _) (by simp)).kept (grownBy_alloc1 _ _) (by simp))
 . have:=(MapC.made (w.alloc (.map #[] 0))).kept (grownBy_alloc1 _ (.cells #[.int .i64 m,.int .i64 1,.int .i64 0,.map (some w.heap.size),.map (some (w.heap.size+1))] 184 (0,0))) (by simp)
   simp only [World.size_alloc] at this
   exact this
 . exact below_new (below_new baa _) _
theorem put1 {w:World} {tb mb ob n:Nat} {S:Tg} (h:IsTags w tb mb ob n S) (v:Int):IsTags (w.setCell ⟨tb,1,none⟩ (.int .i64 v)) tb mb ob n ⟨S.most,v,S.gen,S.T,S.O⟩:=by
 obtain ⟨h1,⟨c,h2⟩,⟨d,h3⟩,n1,n2,n3⟩:=h
 have g:=grown_setCell1 w tb 1 (.int .i64 v)
 exact ⟨Go.Joins.block_setCell h1 _,⟨c,h2.kept g kh⟩,⟨d,h3.kept g kh⟩,n1,n2,n3⟩
theorem put2 {w:World} {tb mb ob n:Nat} {S:Tg} (h:IsTags w tb mb ob n S) (v:Int):IsTags (w.setCell ⟨tb,2,none⟩ (.int .i64 v)) tb mb ob n ⟨S.most,S.next,v,S.T,S.O⟩:=by
 obtain ⟨h1,⟨c,h2⟩,⟨d,h3⟩,n1,n2,n3⟩:=h
 have g:=grown_setCell1 w tb 2 (.int .i64 v)
 exact ⟨Go.Joins.block_setCell h1 _,⟨c,h2.kept g kh⟩,⟨d,h3.kept g kh⟩,n1,n2,n3⟩
theorem turnT {w w':World} {tb mb ob n n':Nat} {S:Tg} {f:Int->Option Int} (h:IsTags w tb mb ob n S) (hm:MapI w' mb n' f) (hg:w.grownBy w' (some mb)) (hn:n<=n'):IsTags w' tb mb ob n' ⟨S.most,S.next,S.gen,f,S.O⟩:=by
 obtain ⟨h1,⟨c,h2⟩,⟨d,h3⟩,n1,n2,n3⟩:=h
 exact ⟨(hg.block tb (blk_lt h1) kh).trans h1,hm,⟨d,(h3.kept hg kh).mono hn⟩,n1,n2,n3⟩
theorem turnO {w w':World} {tb mb ob n n':Nat} {S:Tg} {f:Int->Option Int} (h:IsTags w tb mb ob n S) (hm:MapI w' ob n' f) (hg:w.grownBy w' (some ob)) (hn:n<=n'):IsTags w' tb mb ob n' ⟨S.most,S.next,S.gen,S.T,f⟩:=by
 obtain ⟨h1,⟨c,h2⟩,⟨d,h3⟩,n1,n2,n3⟩:=h
 exact ⟨(hg.block tb (blk_lt h1) kh).trans h1,⟨c,(h2.kept hg kh).mono hn⟩,hm,n1,n2,n3⟩
theorem free {w:World} {tb mb ob n:Nat} {S:Tg} (h:IsTags w tb mb ob n S) (i:Nat):w.frozen? ⟨tb,i,none⟩=false:=Go.Joins.unfrozen_of_block h.blk i
theorem forget_any (tb mb ob n:Nat) (S:Tg) (g0:0<=S.gen) (g1:S.gen<4611686018427387904) (w:World) (h:IsTags w tb mb ob n S) :
 Calls Tryz.prog 91 #[.pointer (some ⟨tb,0,none⟩)] w fun e w'=>e=.returned (.tuple #[])/\IsTags w' tb mb ob n ⟨S.most,1,S.gen+1,noneF,noneF⟩/\Kp tb mb ob w w':=by
 have H:Hid (IsTags w tb mb ob n S):=h
 have c3:w.cell? ⟨tb,3,none⟩=some (.map (some mb)):=h.cell 3
 obtain ⟨m,hm⟩:=h.tags
 have lt0:=blk_lt h.blk
 obtain ⟨w1,r1,k1,q1⟩:=hm.clear 0
 have H1:Hid (IsTags w1 tb mb ob n ⟨S.most,S.next,S.gen,noneF,S.O⟩):=turnT H.out ⟨0,k1⟩ q1 (Nat.le_refl _)
 obtain ⟨m2,hm2⟩:=H1.out.owns
 obtain ⟨w2,r2,k2,q2⟩:=hm2.clear 0
 have H2:Hid (IsTags w2 tb mb ob n ⟨S.most,S.next,S.gen,noneF,noneF⟩):=turnO H1.out ⟨0,k2⟩ q2 (Nat.le_refl _)
 have c4:w1.cell? ⟨tb,4,none⟩=some (.map (some ob)):=H1.out.cell 4
 have f1:w2.frozen? ⟨tb,1,none⟩=false:=free H2.out 1
 have d1:w2.cell? ⟨tb,1,none⟩=some (.int .i64 S.next):=H2.out.cell 1
 have f2:w2.frozen? ⟨tb,2,none⟩=false:=free H2.out 2
 have d2:w2.cell? ⟨tb,2,none⟩=some (.int .i64 S.gen):=H2.out.cell 2
 have lt2:=blk_lt H2.out.blk
 have KK:Hid (Kp tb mb ob w w2):=(Kp.grown q1 (by omega)).trans (Kp.grown q2 (by omega))
 clear h hm hm2 k1 k2 q1 q2
 go_enter Tryz.func91,Tryz.ntmps91
 go_wp2_with fail
 go_returns
 exact ⟨rfl,put2 (put1 H2.out 1) _,(KK.out.trans (Kp.grown (grown_setCell1 _ _ _ _) (by omega))).trans (Kp.grown (grown_setCell1 _ _ _ _) (by omega))⟩
def getV (S:Tg) (s:Int):Int:=match S.T s with | some t=>t | none=>if S.most<S.next then 1 else S.next
def getB (S:Tg) (s:Int):Bool:=match S.T s with | some _=>false | none=>decide (S.most<S.next)
def getS (S:Tg) (s:Int):Tg:=match S.T s with
 | some _ => S
 | none => if S.most < S.next then ⟨S.most, 2, S.gen + 1, setF noneF s (some 1), setF noneF 1 (some s)⟩ else ⟨S.most, S.next + 1, S.gen, setF S.T s (some S.next), setF S.O S.next (some s)⟩
structure Ok (S:Tg):Prop where
 m0:1<=S.most
 m1:S.most<=4095
 n0:1<=S.next
 n1:S.next<=S.most+1
 g0:0<=S.gen
 tb: ∀ s t,S.T s=some t->1<=t/\t<=4095
theorem setT_wf {T:Int->Option Int} {s v:Int} (h: ∀ s t,T s=some t->1<=t/\t<=4095) (hv:1<=v/\v<=4095): ∀ j t,setF T s (some v) j=some t->1<=t/\t<=4095:=by
 intro j t e
 by_cases c:j=s
 . subst c;rw [set_same] at e;cases e;exact hv
 . rw [set_other _ _ _ _ c] at e;exact h j t e
theorem Ok.get {S:Tg} (h:Ok S) (s:Int):Ok (getS S s)/\(getS S s).gen<=S.gen+1/\(getS S s).most=S.most:=by
 unfold getS
 have ⟨m0,m1,n0,n1,g0,tb⟩:=h
 cases e:S.T s with
 | some t => exact ⟨h, by show S.gen ≤ S.gen + 1; omega, rfl⟩
 | none =>
  by_cases c:S.most<S.next
  . rw [if_pos c]
    exact ⟨⟨m0,m1,by show (1:Int)<=2;omega,by show (2:Int)<=S.most+1;omega,by show (0:Int)<=S.gen+1;omega,setT_wf (fun s t q=>by cases q) (by omega)⟩,by show S.gen+1<=S.gen+1;omega,rfl⟩
  . rw [if_neg c]
    exact ⟨⟨m0,m1,by show (1:Int)<=S.next+1;omega,by show S.next+1<=S.most+1;omega,g0,setT_wf tb (by omega)⟩,by show S.gen<=S.gen+1;omega,rfl⟩
theorem fresh_ok (m:Int) (h0:1<=m) (h1:m<=4095):Ok (freshS m):=⟨h0,h1,by show (1:Int)<=1;omega,by show (1:Int)<=m+1;omega,by show (0:Int)<=0;omega,fun s t e=>by cases e⟩
theorem get_has (tb mb ob n:Nat) (S:Tg) (s t:Int) (hs:(Lit.int .i64 s).wf=true) (hT:S.T s=some t) (w:World) (h:IsTags w tb mb ob n S) :
 Calls Tryz.prog 56 #[.pointer (some ⟨tb,0,none⟩),.int .i64 s] w fun e w'=>e=.returned (.tuple #[.int .i64 t,.bool false])/\w'=w:=by
 have c3:w.cell? ⟨tb,3,none⟩=some (.map (some mb)):=h.cell 3
 obtain ⟨m,hm⟩:=h.tags
 have hl:=hm.look hs
 rw [hT] at hl
 have hl':(Instr.lookup 31 (.map (some mb)) (.int .i64 s) true).run Tryz.prog w=.ok (.tuple #[.int .i64 t,.bool true]) w:=hl
 have lt0:=blk_lt h.blk
 clear h hm hl
 go_enter Tryz.func56,Tryz.ntmps56
 go_wp2_with fail
 go_returns
 exact ⟨rfl,rfl⟩
theorem get_new (tb mb ob n:Nat) (S:Tg) (s:Int) (hs:(Lit.int .i64 s).wf=true) (hT:S.T s=none) (hO:Ok S) (hc:S.next<=S.most) (hn:n<maxLen) (w:World) (h:IsTags w tb mb ob n S) :
 Calls Tryz.prog 56 #[.pointer (some ⟨tb,0,none⟩),.int .i64 s] w fun e w'=>e=.returned (.tuple #[.int .i64 S.next,.bool false])/\IsTags w' tb mb ob (n+1) ⟨S.most,S.next+1,S.gen,setF S.T s (some S.next),setF S.O S.next (some s)⟩/\Kp tb mb ob w w':=by
 have ⟨m0,m1,n0,n1,g0,tw⟩:=hO
 have H:Hid (IsTags w tb mb ob n S):=h
 have c3:w.cell? ⟨tb,3,none⟩=some (.map (some mb)):=h.cell 3
 have c0:w.cell? ⟨tb,0,none⟩=some (.int .i64 S.most):=h.cell 0
 have c1:w.cell? ⟨tb,1,none⟩=some (.int .i64 S.next):=h.cell 1
 have f1:w.frozen? ⟨tb,1,none⟩=false:=free h 1
 have wn:(Lit.int .i64 S.next).wf=true:=wf64 (by omega) (by omega)
 obtain ⟨m,hm⟩:=h.tags
 have hl:=hm.look hs
 rw [hT] at hl
 have hl':(Instr.lookup 31 (.map (some mb)) (.int .i64 s) true).run Tryz.prog w=.ok (.tuple #[.int .i64 0,.bool false]) w:=hl
 have lt0:=blk_lt h.blk
 have dd:decide (S.most<S.next)=false:=kh
 clear h hm hl tw hO
 have H1:Hid (IsTags ((w.setCell ⟨tb,1,none⟩ (.int .i64 (S.next+1))).drew) tb mb ob n ⟨S.most,S.next+1,S.gen,S.T,S.O⟩):=(put1 H.out _).kept (fun _ _ _=>rfl)
 have K1:Hid (Kp tb mb ob w ((w.setCell ⟨tb,1,none⟩ (.int .i64 (S.next+1))).drew)):=(Kp.grown (grown_setCell1 _ _ _ _) (by omega)).drew
 generalize hw1:(w.setCell ⟨tb,1,none⟩ (.int .i64 (S.next+1))).drew=w1 at H1 K1
 obtain ⟨d1,hd1⟩:=H1.out.tags
 obtain ⟨w2,r2,k2,q2⟩:=hd1.set hn hs wn
 have H2:Hid (IsTags w2 tb mb ob (n+1) ⟨S.most,S.next+1,S.gen,setF S.T s (some S.next),S.O⟩):=turnT H1.out ⟨_,k2⟩ q2 (Nat.le_succ _)
 obtain ⟨d2,hd2⟩:=H1.out.owns
 obtain ⟨w3,r3,k3,q3⟩:=(hd2.kept q2 (by have:=H1.out.ne1;simp;omega)).set hn wn hs
 have H3:Hid (IsTags w3 tb mb ob (n+1) ⟨S.most,S.next+1,S.gen,setF S.T s (some S.next),setF S.O S.next (some s)⟩):=turnO H2.out ⟨_,k3⟩ q3 (Nat.le_refl _)
 have K3:Hid (Kp tb mb ob w w3):=(K1.out.trans (Kp.grown q2 (by omega))).trans (Kp.grown q3 (by omega))
 have c13:w1.cell? ⟨tb,3,none⟩=some (.map (some mb)):=H1.out.cell 3
 have c24:w2.cell? ⟨tb,4,none⟩=some (.map (some ob)):=H2.out.cell 4
 have lt1:=blk_lt H1.out.blk
 have lt2:=blk_lt H2.out.blk
 clear hd1 hd2 k2 k3 q2 q3
 have HW:Hid ((w.setCell ⟨tb,1,none⟩ (.int .i64 (S.next+1))).drew=w1):=hw1
 clear hw1
 obtain ⟨Sm,Sn,Sg,ST,SO⟩:=S
 simp only at *
 have r2':(Instr.mapUpdate 31 (.map (some mb)) (.int .i64 s) (.int .i64 Sn)).run Tryz.prog (w.setCell ⟨tb,1,none⟩ (.int .i64 (Sn+1))).drew=.ok () w2:=by rw [HW.out];exact r2
 clear r2
 go_enter Tryz.func56,Tryz.ntmps56
 go_wp2_with fail
 go_region
 all_goals (go_wp2_with fail)
 all_goals (go_returns;exact ⟨rfl,H3.out,K3.out⟩)
theorem get_over (tb mb ob n:Nat) (S:Tg) (s:Int) (hs:(Lit.int .i64 s).wf=true) (hT:S.T s=none) (hO:Ok S) (hc:S.most<S.next) (hg:S.gen<4611686018427387904) (hn:n<maxLen) (w:World) (h:IsTags w tb mb ob n S) :
 Calls Tryz.prog 56 #[.pointer (some ⟨tb,0,none⟩),.int .i64 s] w fun e w'=>e=.returned (.tuple #[.int .i64 1,.bool true])/\IsTags w' tb mb ob (n+1) ⟨S.most,2,S.gen+1,setF noneF s (some 1),setF noneF 1 (some s)⟩/\Kp tb mb ob w w':=by
 have ⟨m0,m1,n0,n1,g0,tw⟩:=hO
 have FG:Hid (∀ W:World,IsTags W tb mb ob n S->Calls Tryz.prog 91 #[.pointer (some ⟨tb,0,none⟩)] W fun e w'=>e=.returned (.tuple #[])/\IsTags w' tb mb ob n ⟨S.most,1,S.gen+1,noneF,noneF⟩/\Kp tb mb ob W w'):=fun W h=>forget_any tb mb ob n S g0 hg W h
 have H:Hid (IsTags w tb mb ob n S):=h
 have c3:w.cell? ⟨tb,3,none⟩=some (.map (some mb)):=h.cell 3
 have c0:w.cell? ⟨tb,0,none⟩=some (.int .i64 S.most):=h.cell 0
 have c1:w.cell? ⟨tb,1,none⟩=some (.int .i64 S.next):=h.cell 1
 obtain ⟨m,hm⟩:=h.tags
 have hl:=hm.look hs
 rw [hT] at hl
 have hl':(Instr.lookup 31 (.map (some mb)) (.int .i64 s) true).run Tryz.prog w=.ok (.tuple #[.int .i64 0,.bool false]) w:=hl
 have lt0:=blk_lt h.blk
 have dd:decide (S.most<S.next)=true:=kh
 clear h hm hl tw hO
 obtain ⟨Sm,Sn,Sg,ST,SO⟩:=S
 simp only at *
 go_enter Tryz.func56,Tryz.ntmps56
 go_wp2_with fail
 go_region
 all_goals (go_wp2_with fail)
 all_goals (refine (FG.out w.drew (H.out.kept (fun _ _ _=>rfl))).mono ?_;rintro e u ⟨rfl,h1,k1⟩)
 all_goals (have H0:Hid (IsTags u tb mb ob n ⟨Sm,1,Sg+1,noneF,noneF⟩):=h1;have K0:Hid (Kp tb mb ob w u):=⟨k1.os,k1.tape,k1.output,k1.size,k1.block⟩;clear h1 k1;have e1:u.cell? ⟨tb,1,none⟩=some (.int .i64 1):=H0.out.cell 1;have e2:u.frozen? ⟨tb,1,none⟩=false:=free H0.out 1;have e3:u.cell? ⟨tb,3,none⟩=some (.map (some mb)):=H0.out.cell 3;have lt:=blk_lt H0.out.blk)
 all_goals (have H1:Hid (IsTags (u.setCell ⟨tb,1,none⟩ (.int .i64 2)) tb mb ob n ⟨Sm,2,Sg+1,noneF,noneF⟩):=put1 H0.out 2;have K1:Hid (Kp tb mb ob w (u.setCell ⟨tb,1,none⟩ (.int .i64 2))):=K0.out.trans (Kp.grown (grown_setCell1 _ _ _ _) (by omega)))
 all_goals (generalize hw1:u.setCell ⟨tb,1,none⟩ (.int .i64 2)=w1 at H1 K1;have HW:Hid (u.setCell ⟨tb,1,none⟩ (.int .i64 2)=w1):=hw1;clear hw1)
 all_goals (obtain ⟨d1,hd1⟩:=H1.out.tags;obtain ⟨w2,r2,k2,q2⟩:=hd1.set (v:=1) hn hs (by decide))
 all_goals (have H2:Hid (IsTags w2 tb mb ob (n+1) ⟨Sm,2,Sg+1,setF noneF s (some 1),noneF⟩):=turnT H1.out ⟨_,k2⟩ q2 (Nat.le_succ _);obtain ⟨d2,hd2⟩:=H1.out.owns;obtain ⟨w3,r3,k3,q3⟩:=(hd2.kept q2 (by have:=H1.out.ne1;simp;omega)).set (k:=1) hn (by decide) hs)
 all_goals (have H3:Hid (IsTags w3 tb mb ob (n+1) ⟨Sm,2,Sg+1,setF noneF s (some 1),setF noneF 1 (some s)⟩):=turnO H2.out ⟨_,k3⟩ q3 (Nat.le_refl _);have K3:Hid (Kp tb mb ob w w3):=(K1.out.trans (Kp.grown q2 (by omega))).trans (Kp.grown q3 (by omega)))
 all_goals (have c13:w1.cell? ⟨tb,3,none⟩=some (.map (some mb)):=H1.out.cell 3;have c24:w2.cell? ⟨tb,4,none⟩=some (.map (some ob)):=H2.out.cell 4;have lt1:=blk_lt H1.out.blk;have lt2:=blk_lt H2.out.blk;clear hd1 hd2 k2 k3 q2 q3)
 all_goals (have r2':(Instr.mapUpdate 31 (.map (some mb)) (.int .i64 s) (.int .i64 1)).run Tryz.prog (u.setCell ⟨tb,1,none⟩ (.int .i64 2))=.ok () w2:=(by rw [HW.out];exact r2);clear r2)
 all_goals (go_wp2_with fail)
 all_goals (go_returns;exact ⟨rfl,H3.out,K3.out⟩)
theorem get_any (tb mb ob n:Nat) (S:Tg) (s:Int) (hs:(Lit.int .i64 s).wf=true) (hO:Ok S) (hg:S.gen<4611686018427387904) (hn:n<maxLen) (w:World) (h:IsTags w tb mb ob n S) :
 Calls Tryz.prog 56 #[.pointer (some ⟨tb,0,none⟩),.int .i64 s] w fun e w'=>e=.returned (.tuple #[.int .i64 (getV S s),.bool (getB S s)])/\IsTags w' tb mb ob (n+1) (getS S s)/\Kp tb mb ob w w':=by
 unfold getV getB getS
 cases e:S.T s with
 | some t =>
  refine (get_has tb mb ob n S s t hs e w h).mono ?_
  rintro x w' ⟨rfl,rfl⟩
  exact ⟨rfl,h.mono (Nat.le_succ _),Kp.refl _ _ _ _⟩
 | none =>
  by_cases c:S.most<S.next
  . simp only [if_pos c,decide_eq_true c]
    exact get_over tb mb ob n S s hs e hO c hg hn w h
  . simp only [if_neg c,decide_eq_false c]
    exact get_new tb mb ob n S s hs e hO (by omega) hn w h
structure Good (S:Tg):Prop where
 ok:Ok S
 low: ∀ s t,S.T s=some t->1<=t/\t<S.next
 tu: ∀ s t,S.T s=some t->S.O t=some s
 back: ∀ t s,S.O t=some s->S.T s=some t
theorem fresh_good (m:Int) (h0:1<=m) (h1:m<=4095):Good (freshS m):=⟨fresh_ok m h0 h1,fun s t e=>(by cases e),fun s t e=>(by cases e),fun s t e=>(by cases e)⟩
theorem get_cases (S:Tg) (s:Int):(∃ t,S.T s=some t/\getV S s=t/\getB S s=false/\getS S s=S)\/(S.T s=none/\S.most<S.next/\getV S s=1/\getB S s=true/\getS S s=⟨S.most,2,S.gen+1,setF noneF s (some 1),setF noneF 1 (some s)⟩) \/
 (S.T s=none/\S.next<=S.most/\getV S s=S.next/\getB S s=false/\getS S s=⟨S.most,S.next+1,S.gen,setF S.T s (some S.next),setF S.O S.next (some s)⟩):=by
 unfold getV getB getS
 cases e:S.T s with
 | some t => exact Or.inl ⟨t, rfl, rfl, rfl, rfl⟩
 | none =>
  by_cases c:S.most<S.next
  . exact Or.inr (Or.inl ⟨rfl,c,if_pos c,decide_eq_true c,if_pos c⟩)
  . exact Or.inr (Or.inr ⟨rfl,by omega,if_neg c,decide_eq_false c,if_neg c⟩)
theorem Good.get {S:Tg} (h:Good S) (s:Int):Good (getS S s):=by
 rcases get_cases S s with ⟨t,_,_,_,e⟩ | ⟨q,c,_,_,e⟩ | ⟨q,c,_,_,e⟩
 . rw [e];exact h
 . refine ⟨(h.ok.get s).1,?_,?_,?_⟩ <;> rw [e]
   . intro j t x
     by_cases d:j=s
     . subst d;simp only [set_same] at x;cases x;exact ⟨by omega,by show (1:Int)<2;omega⟩
     . simp only [set_other _ _ _ _ d] at x;cases x
   . intro j t x
     by_cases d:j=s
     . subst d;simp only [set_same] at x;cases x;exact set_same noneF 1 (some j)
     . simp only [set_other _ _ _ _ d] at x;cases x
   . intro t j x
     by_cases d:t=1
     . subst d;simp only [set_same] at x;cases x;exact set_same noneF s (some 1)
     . simp only [set_other _ _ _ _ d] at x;cases x
 . refine ⟨(h.ok.get s).1,?_,?_,?_⟩ <;> rw [e]
   . intro j t x
     have n0:=h.ok.n0
     by_cases d:j=s
     . subst d;simp only [set_same] at x;cases x;exact ⟨n0,by show S.next<S.next+1;omega⟩
     . simp only [set_other _ _ _ _ d] at x;have:=h.low j t x;exact ⟨this.1,by show t<S.next+1;omega⟩
   . intro j t x
     by_cases d:j=s
     . subst d;simp only [set_same] at x;cases x;exact set_same S.O S.next (some j)
     . simp only [set_other _ _ _ _ d] at x
       have:=h.low j t x
       show setF S.O S.next (some s) t=some j
       rw [set_other _ _ _ _ (by omega)];exact h.tu j t x
   . intro t j x
     by_cases d:t=S.next
     . subst d;simp only [set_same] at x;cases x;exact set_same S.T s (some S.next)
     . simp only [set_other _ _ _ _ d] at x
       have y:=h.back t j x
       show setF S.T s (some S.next) j=some t
       rw [set_other _ _ _ _ (by rintro rfl;rw [q] at y;cases y)];exact y
theorem get_facts {S:Tg} (h:Good S) (s:Int):(getS S s).T s=some (getV S s)/\(getS S s).O (getV S s)=some s/\1<=getV S s/\getV S s<=S.most/\getV (getS S s) s=getV S s/\getB (getS S s) s=false/\getS (getS S s) s=getS S s:=by
 have n0:=h.ok.n0;have n1:=h.ok.n1;have m0:=h.ok.m0
 have key:(getS S s).T s=some (getV S s)/\1<=getV S s/\getV S s<=S.most:=by
  rcases get_cases S s with ⟨t,q,e1,_,e2⟩ | ⟨q,c,e1,_,e2⟩ | ⟨q,c,e1,_,e2⟩
  . rw [e1,e2];have:=h.low s t q;exact ⟨q,by omega,by omega⟩
  . rw [e1,e2];exact ⟨set_same _ _ _,by omega,by omega⟩
  . rw [e1,e2];exact ⟨set_same _ _ _,by omega,by omega⟩
 obtain ⟨k1,k2,k3⟩:=key
 refine ⟨k1,(h.get s).tu _ _ k1,k2,k3,?_⟩
 rcases get_cases (getS S s) s with ⟨t,q,e1,e2,e3⟩ | ⟨q,_⟩ | ⟨q,_⟩
 . rw [k1] at q;cases q;exact ⟨e1,e2,e3⟩
 . rw [k1] at q;cases q
 . rw [k1] at q;cases q
end Go.Proofs.YtgbdnnkkcpkhdaaGreatDoor.Pc
