import Derived.Test.YthmobfelhpbllaaGreatDoorChecked
import Derived.WalkKit
import Derived.ProofKit
import Derived.OpenShut
import Derived.Carry
import Derived.Lib.SmallJoins
import Derived.Deep.Light
import Derived.Deep.MidRow
import Derived.Deep.RegionHeld3
import Derived.Deep.DrawnRows
import Derived.Handy
import Derived.Laws.MakeOwn
namespace Go.Proofs.YthmobfelhpbllaaGreatDoor.Tl
open Go.ChangeShapes Go.WideShapes Go.ChangeAt Go.RowKit Go.Maps
set_option linter.unusedSimpArgs false
set_option linter.unusedVariables false
set_option maxRecDepth 8000
structure Ln where
 v:Bool
 t:Int
 p:Int
 f:Int
 w:Bool
 u:Bool
 x:Bool
 g:Bool
 d:Bool
def Ln.enc (l:Ln):List Value:=[.bool l.v,.int .i64 l.t,.int .i64 l.p,.int .i64 l.f,.bool l.w,.bool l.u,.bool l.x,.bool l.g,.bool l.d]
abbrev Ln.val (l:Ln):Value:=.agg #[.bool l.v,.int .i64 l.t,.int .i64 l.p,.int .i64 l.f,.bool l.w,.bool l.u,.bool l.x,.bool l.g,.bool l.d]
def Ln.zero:Ln:=⟨false,0,0,0,false,false,false,false,false⟩
def Ln.ok (l:Ln):Bool:=l.v && (decide (0<=l.t) && decide (l.t<4096) && decide (0<=l.p) && decide (0<=l.f))
end Go.Proofs.YthmobfelhpbllaaGreatDoor.Tl
namespace Go.Proofs.YthmobfelhpbllaaGreatDoor.Tl
open Go.ChangeShapes Go.WideShapes Go.ChangeAt Go.RowKit Go.Maps
set_option linter.unusedSimpArgs false
set_option linter.unusedVariables false
set_option maxRecDepth 8000
theorem below_new {w w':World} (h:Below w.heap.size w w') (o:Obj):Below w.heap.size w (w'.alloc o):=h.alloc h.size o
theorem below_then {w x y:World} (h1:Below w.heap.size w x) (h2:Below x.heap.size x y):Below w.heap.size w y:=h1.trans (Go.Joins.below_le h2 h1.size)
end Go.Proofs.YthmobfelhpbllaaGreatDoor.Tl
namespace Go.Proofs.YthmobfelhpbllaaGreatDoor.Tl
open Go.ChangeShapes Go.WideShapes Go.ChangeAt Go.RowKit Go.Maps
set_option linter.unusedSimpArgs false
set_option linter.unusedVariables false
set_option maxRecDepth 8000
def IsTlb (w:World) (b:Nat) (T:Nat->Ln):Prop:=(∀ i,i<16->w.rangeAt b (i*9) (T i).enc)/\w.there b 0 144/\b<w.heap.size
theorem grown_setCell1 (w:World) (b o:Nat) (v:Value):w.grownBy (w.setCell ⟨b,o,none⟩ v) (some b):=by
 have h:Below 0 w (w.setCell ⟨b,o,none⟩ v):=(Below.refl 0 w).setCell (Nat.zero_le _) v
 exact ⟨h.os,h.tape,h.output,h.size,fun k hk hne=>Below.heap_setCell _ _ _ _ (fun e=>hne (by rw [show k=b from e]))⟩
theorem grown_trans {a b c:World} {r:Option Nat} (h:a.grownBy b r) (k:b.grownBy c r):a.grownBy c r:=⟨k.os.trans h.os,k.tape.trans h.tape,k.output.trans h.output,Nat.le_trans h.size k.size,fun j hj hne=>(k.block j (Nat.lt_of_lt_of_le hj h.size) hne).trans (h.block j hj hne)⟩
theorem grown_refl (a:World) (r:Option Nat):a.grownBy a r:=⟨rfl,rfl,rfl,Nat.le_refl _,fun _ _ _=>rfl⟩
theorem grown_setCells (b:Nat): ∀ (vs:List Value) (o:Nat) (w:World),w.grownBy (w.setCells b o vs) (some b)
 | [], _, w => grown_refl w _
 | v :: r, o, w => by
  rw [World.setCells]
  exact grown_trans (grown_setCell1 w b o v) (grown_setCells b r (o+1) _)
theorem enc_len (l:Ln):l.enc.length=9:=rfl
theorem store_pat {P:Program} {ops:Array Oper} {rest:List Oper} {ty t:TypeId} {x y:Operand} {pos:String} {af:Array Edge} {a:Act} {w:World} {Q:Exit->Act->World->Prop} (b o:Nat) (cells:Array Value) (hx:a.eval x=.pointer (some ⟨b,o,none⟩)) (hy:a.eval y=.agg cells)
 (ht:w.there b o cells.size) (hi:(P.info? ty).map (·.size)=some cells.size) (h1:cells.all (·.oneCell')=true)
 (h:wpList P ops Q rest a (w.setCells b o cells.toList)):wpList P ops Q ({ dst:=none,op:=.store ty x y,type:=t,pos:=pos,after:=af,guard:=none }::rest) a w :=
 wpList_store_mid rfl ty x y rfl b o cells hx hy ht hi h1 h
end Go.Proofs.YthmobfelhpbllaaGreatDoor.Tl
namespace Go.Proofs.YthmobfelhpbllaaGreatDoor.Tl
open Go.ChangeShapes Go.WideShapes Go.ChangeAt Go.RowKit Go.Maps
set_option linter.unusedSimpArgs false
set_option linter.unusedVariables false
set_option maxRecDepth 8000
end Go.Proofs.YthmobfelhpbllaaGreatDoor.Tl
