import Derived.Test.YtajfbieacfjhnaaGreatDoorChecked
import Derived.WalkKit
import Derived.ProofKit
import Derived.OpenShut
import Derived.Carry
import Derived.Lib.SmallJoins
import Derived.Deep.Light
import Derived.Deep.MidRow
import Derived.Deep.RegionHeld3
import Derived.Deep.DrawnRows
import Derived.Handy
import Derived.Laws.MakeOwn
namespace Go.Proofs.YtajfbieacfjhnaaGreatDoor.Tl
open Go.ChangeShapes Go.WideShapes Go.ChangeAt Go.RowKit Go.Maps
set_option linter.unusedSimpArgs false
set_option linter.unusedVariables false
set_option maxRecDepth 8000
structure Ln where
 v:Bool
 t:Int
 p:Int
 f:Int
 w:Bool
 u:Bool
 x:Bool
 g:Bool
 d:Bool
def Ln.enc (l:Ln):List Value:=[.bool l.v,.int .i64 l.t,.int .i64 l.p,.int .i64 l.f,.bool l.w,.bool l.u,.bool l.x,.bool l.g,.bool l.d]
abbrev Ln.val (l:Ln):Value:=.agg #[.bool l.v,.int .i64 l.t,.int .i64 l.p,.int .i64 l.f,.bool l.w,.bool l.u,.bool l.x,.bool l.g,.bool l.d]
def Ln.zero:Ln:=⟨false,0,0,0,false,false,false,false,false⟩
def Ln.ok (l:Ln):Bool:=l.v && (decide (0<=l.t) && decide (l.t<4096) && decide (0<=l.p) && decide (0<=l.f))
end Go.Proofs.YtajfbieacfjhnaaGreatDoor.Tl
namespace Go.Proofs.YtajfbieacfjhnaaGreatDoor.Tl
open Go.ChangeShapes Go.WideShapes Go.ChangeAt Go.RowKit Go.Maps
set_option linter.unusedSimpArgs false
set_option linter.unusedVariables false
set_option maxRecDepth 8000
end Go.Proofs.YtajfbieacfjhnaaGreatDoor.Tl
namespace Go.Proofs.YtajfbieacfjhnaaGreatDoor.Tl
open Go.ChangeShapes Go.WideShapes Go.ChangeAt Go.RowKit Go.Maps
set_option linter.unusedSimpArgs false
set_option linter.unusedVariables false
set_option maxRecDepth 8000
def IsTlb (w:World) (b:Nat) (T:Nat->Ln):Prop:=(∀ i,i<16->w.rangeAt b (i*9) (T i).enc)/\w.there b 0 144/\b<w.heap.size
theorem enc_len (l:Ln):l.enc.length=9:=rfl
end Go.Proofs.YtajfbieacfjhnaaGreatDoor.Tl
namespace Go.Proofs.YtajfbieacfjhnaaGreatDoor.Tl
open Go.ChangeShapes Go.WideShapes Go.ChangeAt Go.RowKit Go.Maps
set_option linter.unusedSimpArgs false
set_option linter.unusedVariables false
set_option maxRecDepth 8000
end Go.Proofs.YtajfbieacfjhnaaGreatDoor.Tl
