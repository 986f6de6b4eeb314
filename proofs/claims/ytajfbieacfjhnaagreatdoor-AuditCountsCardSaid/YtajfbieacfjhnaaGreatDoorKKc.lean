import Derived.Test.YtajfbieacfjhnaaGreatDoorChecked
import Derived.WalkKit
import Derived.ProofKit
import Derived.OpenShut
import Derived.Carry
import Derived.Lib.SmallJoins
import Derived.Deep.Light
import Derived.Deep.MidRow
import Derived.Deep.RegionHeld3
import Derived.Deep.DrawnRows
import Derived.Handy
import Derived.Laws.MakeOwn
import Derived.MapKept
import Derived.Laws.Tables
import Derived.Maps.OwnSet
import Derived.Maps.OwnOps
namespace Go.Proofs.YtajfbieacfjhnaaGreatDoor.Pc
open Go.ChangeShapes Go.WideShapes Go.ChangeAt Go.RowKit Go.Maps
set_option linter.unusedSimpArgs false
set_option linter.unusedVariables false
set_option maxRecDepth 8000
theorem below_new {w w':World} (h:Below w.heap.size w w') (o:Obj):Below w.heap.size w (w'.alloc o):=h.alloc h.size o
theorem own1 (w:World) (o:Obj):(w.alloc o).heap[w.heap.size]? =some o:=(MapKept.heap_alloc w o).1
theorem blk_lt {w:World} {b:Nat} {o:Obj} (h:w.heap[b]? =some o):b<w.heap.size:=(Array.getElem?_eq_some_iff.1 h).1
theorem grownBy_alloc1 (w:World) (o:Obj):w.grownBy (w.alloc o) none:=World.grownBy_alloc w o none
theorem keyLaw:Keyed Tryz.prog 3:=int_keyed Tryz.underlying3
def MapC (w:World) (b n c:Nat) (f:Int->Option Int):Prop :=
 ∃ D:DataW Unit,w.ownsMap Tryz.prog 3 (plainElem Tryz.prog 3) b n D/\Maps.size D=c/\ ∀ k,Maps.has D (.int .i64 k)=(f k).isSome/\D.atKey (.int .i64 k) (.lit (.int .i64 0))=.lit (.int .i64 ((f k).getD 0))
def setF (f:Int->Option Int) (k:Int) (o:Option Int):Int->Option Int:=fun j=>if j=k then o else f j
theorem set_same (f:Int->Option Int) (k:Int) (o:Option Int):setF f k o k=o:=if_pos rfl
theorem set_other (f:Int->Option Int) (k:Int) (o:Option Int) (j:Int) (h:j≠k):setF f k o j=f j:=if_neg h
def noneF:Int->Option Int:=fun _=>none
variable {w:World} {b n c:Nat} {f:Int->Option Int}
theorem MapC.set (h:MapC w b n c f) (hn:n<maxLen) {k v:Int} (hk:(Lit.int .i64 k).wf=true) (hv:(Lit.int .i64 v).wf=true) :
 ∃ w',(Instr.mapUpdate 83 (.map (some b)) (.int .i64 k) (.int .i64 v)).run Tryz.prog w=.ok () w'/\MapC w' b (n+1) (if (f k).isSome=true then c else c+1) (setF f k (some v))/\w.grownBy w' (some b):=by
 obtain ⟨D,hown,hc,hD⟩:=h
 have hkey:=keyOf_int_mk Tryz.underlying3 hk
 obtain ⟨w',hrun,hown',hg⟩:=hown.update keyLaw Tryz.underlying83 hn hkey (plainElem_int Tryz.underlying3 hv)
 refine ⟨w',hrun,⟨_,hown',?_,?_⟩,hg⟩
 . rw [Maps.size_put (hown.tidy keyLaw),(hD k).1,hc]
 . intro j
   by_cases e:j=k
   . subst e
     rw [set_same]
     exact ⟨Maps.has_put_same hown.isMap (by trivial) _,Maps.atKey_put_same hown.isMap (by trivial) _ _⟩
   . have ne:(Lit.int .i64 j)≠ .int .i64 k:=by intro q;cases q;exact e rfl
     rw [set_other _ _ _ _ e,Maps.has_put_other ne,Maps.atKey_put_other ne]
     exact hD j
theorem MapC.kept {w':World} {row:Option Nat} (h:MapC w b n c f) (hg:w.grownBy w' row) (hne:some b≠row):MapC w' b n c f:=by
 obtain ⟨D,hown,hD⟩:=h
 exact ⟨D,hown.kept hg hne,hD⟩
theorem MapC.lt (h:MapC w b n c f):b<w.heap.size:=by obtain ⟨D,hown,_⟩:=h;exact hown.lt
theorem MapC.mono (h:MapC w b n c f) {n':Nat} (hn:n<=n'):MapC w b n' c f:=by
 obtain ⟨D,hown,hD⟩:=h
 exact ⟨D,hown.mono hn,hD⟩
theorem MapC.made (w:World):MapC (w.alloc (.map #[] 0)) w.heap.size 0 0 noneF :=
 ⟨.map [],World.ownsMap_made w Tryz.prog 3 _,rfl,fun _=>⟨rfl,rfl⟩⟩
theorem MapC.block {w':World} (h:MapC w b n c f) (hb:w'.heap[b]? =w.heap[b]?):MapC w' b n c f:=by
 obtain ⟨D,⟨es,clock,h1,r⟩,hD⟩:=h
 exact ⟨D,⟨es,clock,hb.trans h1,r⟩,hD⟩
def MapI (w:World) (b n:Nat) (f:Int->Option Int):Prop:= ∃ c,MapC w b n c f
structure Tg where
 most:Int
 next:Int
 gen:Int
 T:Int->Option Int
 O:Int->Option Int
structure IsTags (w:World) (tb mb ob n:Nat) (S:Tg):Prop where
 blk:w.heap[tb]? =some (.cells #[.int .i64 S.most,.int .i64 S.next,.int .i64 S.gen,.map (some mb),.map (some ob)] 161 (0,0))
 tags:MapI w mb n S.T
 owns:MapI w ob n S.O
 ne1:mb≠ob
 ne2:tb≠mb
 ne3:tb≠ob
theorem IsTags.kept {w w':World} {tb mb ob n:Nat} {S:Tg} (h:IsTags w tb mb ob n S) (hb: ∀ k,k<w.heap.size->(k=tb\/k=mb\/k=ob)->w'.heap[k]? =w.heap[k]?):IsTags w' tb mb ob n S:=by
 obtain ⟨h1,⟨c,h2⟩,⟨d,h3⟩,n1,n2,n3⟩:=h
 exact ⟨(hb tb (blk_lt h1) (by omega)).trans h1,⟨c,h2.block (hb mb h2.lt (by omega))⟩,⟨d,h3.block (hb ob h3.lt (by omega))⟩,n1,n2,n3⟩
theorem IsTags.below {w w':World} {tb mb ob n:Nat} {S:Tg} (h:IsTags w tb mb ob n S) (hb:Below w.heap.size w w'):IsTags w' tb mb ob n S:=h.kept (fun k hk _=>hb.block k hk)
theorem IsTags.mono {w:World} {tb mb ob n n':Nat} {S:Tg} (h:IsTags w tb mb ob n S) (hn:n<=n'):IsTags w tb mb ob n' S:=by
 obtain ⟨h1,⟨c,h2⟩,⟨d,h3⟩,n1,n2,n3⟩:=h
 exact ⟨h1,⟨c,h2.mono hn⟩,⟨d,h3.mono hn⟩,n1,n2,n3⟩
def Own (w W:World) (tb mb ob n:Nat) (S:Tg):Prop:=IsTags W tb mb ob n S/\Below w.heap.size w W/\w.heap.size<=tb/\w.heap.size<=mb/\w.heap.size<=ob
end Go.Proofs.YtajfbieacfjhnaaGreatDoor.Pc
namespace Go.Proofs.YtajfbieacfjhnaaGreatDoor.Pc
open Go.ChangeShapes Go.WideShapes Go.ChangeAt Go.RowKit Go.Maps
set_option linter.unusedSimpArgs false
set_option linter.unusedVariables false
set_option maxRecDepth 8000
def freshS (most:Int):Tg:=⟨most,1,0,noneF,noneF⟩
set_option maxHeartbeats 400000 in
theorem new_ok (m:Int) (h0:1<=m) (h1:m<=4095) (w:World):Calls Tryz.prog 45 #[.int .i64 m] w fun e w'=>e=.returned (.tuple #[.pointer (some ⟨w.heap.size+2,0,none⟩),.int .i64 0])/\Own w w' (w.heap.size+2) w.heap.size (w.heap.size+1) 0 (freshS m):=by
 have e1:decide (m<1)=false:=by simp;omega
 have e2:decide (4095<m)=false:=by simp;omega
 have hmm:= @run_makeMap Tryz.prog
 go_enter Tryz.func45,Tryz.ntmps45
 go_wp2_with fail
 go_returns
 refine ⟨rfl,⟨?_,⟨0,?_⟩,⟨0,?_⟩,by omega,by omega,by omega⟩,?_,by omega,by omega,by omega⟩
 . have:=own1 ((w.alloc (.map #[] 0)).alloc (.map #[] 0)) (.cells #[.int .i64 m,.int .i64 1,.int .i64 0,.map (some w.heap.size),.map (some (w.heap.size+1))] 161 (0,0))
   simp only [World.size_alloc] at this
   exact this
 . exact (((MapC.made w).kept (grownBy_alloc1 _ _) (by simp)).kept (grownBy_alloc1 _ _) (by simp))
 . have:=(MapC.made (w.alloc (.map #[] 0))).kept (grownBy_alloc1 _ (.cells #[.int .i64 m,.int .i64 1,.int .i64 0,.map (some w.heap.size),.map (some (w.heap.size+1))] 161 (0,0))) (by simp)
   simp only [World.size_alloc] at this
   exact this
 . exact below_new (below_new (Go.Joins.below_alloc1 _ _) _) _
end Go.Proofs.YtajfbieacfjhnaaGreatDoor.Pc
namespace Go.Proofs.YtajfbieacfjhnaaGreatDoor.Pc
open Go.ChangeShapes Go.WideShapes Go.ChangeAt Go.RowKit Go.Maps
set_option linter.unusedSimpArgs false
set_option linter.unusedVariables false
set_option maxRecDepth 8000
end Go.Proofs.YtajfbieacfjhnaaGreatDoor.Pc
