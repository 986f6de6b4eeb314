import Derived.Test.YtajfbieacfjhnaaGreatDoorTUc
import Derived.MapKept
import Derived.Laws.Tables
import Derived.OwnWalk
import Derived.Laws.AppendOwn
import Derived.Great.Walk
namespace Go.Proofs.YtajfbieacfjhnaaGreatDoor.Tl
open Go.ChangeShapes Go.WideShapes Go.ChangeAt Go.RowKit Go.Maps
set_option linter.unusedSimpArgs false
set_option linter.unusedVariables false
set_option maxRecDepth 8000
theorem own1 (w:World) (o:Obj):(w.alloc o).heap[w.heap.size]? =some o:=(MapKept.heap_alloc w o).1
theorem there_block {w:World} {b:Nat} {C:Array Value} {t:TypeId} (h:w.heap[b]? =some (.cells C t (0,0))):w.there b 0 C.size:=fun j hj=>by
 rw [Nat.zero_add]
 exact ⟨by rw [Go.Joins.cell_of_block h j,Array.getElem?_eq_getElem hj];rfl,Go.Joins.unfrozen_of_block h j⟩
end Go.Proofs.YtajfbieacfjhnaaGreatDoor.Tl
namespace Go.Proofs.YtajfbieacfjhnaaGreatDoor.Tl
open Go.ChangeShapes Go.WideShapes Go.ChangeAt Go.RowKit Go.Maps
set_option linter.unusedSimpArgs false
set_option linter.unusedVariables false
set_option maxRecDepth 8000
end Go.Proofs.YtajfbieacfjhnaaGreatDoor.Tl
namespace Go.Proofs.YtajfbieacfjhnaaGreatDoor.Tl
open Go.ChangeShapes Go.WideShapes Go.ChangeAt Go.RowKit Go.Maps
set_option linter.unusedSimpArgs false
set_option linter.unusedVariables false
set_option maxRecDepth 8000
def flatT (T:Nat->Ln):List Value:=[.bool (T (0)).v,.int .i64 (T (0)).t,.int .i64 (T (0)).p,.int .i64 (T (0)).f,.bool (T (0)).w,.bool (T (0)).u,.bool (T (0)).x,.bool (T (0)).g,.bool (T (0)).d,.bool (T (1)).v,.int .i64 (T (1)).t,.int .i64 (T (1)).p,.int .i64 (T (1)).f,.bool (T (1)).w,.bool (T (1)).u,.bool (T (1)).x,.bool (T (1)).g,.bool (T (1)).d,.bool (T (2)).v,.int .i64 (T (2)).t,.int .i64 (T (2)).p,.int .i64 (T (2)).f,.bool (T (2)).w,.bool (T (2)).u,.bool (T (2)).x,.bool (T (2)).g,.bool (T (2)).d,.bool (T (3)).v,.int .i64 (T (3)).t,.int .i64 (T (3)).p,.int .i64 (T (3)).f,.bool (T (3)).w,.bool (T (3)).u,.bool (T (3)).x,.bool (T (3)).g,.bool (T (3)).d,.bool (T (4)).v,.int .i64 (T (4)).t,.int .i64 (T (4)).p,.int .i64 (T (4)).f,.bool (T (4)).w,.bool (T (4)).u,.bool (T (4)).x,.bool (T (4)).g,.bool (T (4)).d,.bool (T (5)).v,.int .i64 (T (5)).t,.int .i64 (T (5)).p,.int .i64 (T (5)).f,.bool (T (5)).w,.bool (T (5)).u,.bool (T (5)).x,.bool (T (5)).g,.bool (T (5)).d,.bool (T (6)).v,.int .i64 (T (6)).t,.int .i64 (T (6)).p,.int .i64 (T (6)).f,.bool (T (6)).w,.bool (T (6)).u,.bool (T (6)).x,.bool (T (6)).g,.bool (T (6)).d,.bool (T (7)).v,.int .i64 (T (7)).t,.int .i64 (T (7)).p,.int .i64 (T (7)).f,.bool (T (7)).w,.bool (T (7)).u,.bool (T (7)).x,.bool (T (7)).g,.bool (T (7)).d,.bool (T (8)).v,.int .i64 (T (8)).t,.int .i64 (T (8)).p,.int .i64 (T (8)).f,.bool (T (8)).w,.bool (T (8)).u,.bool (T (8)).x,.bool (T (8)).g,.bool (T (8)).d,.bool (T (9)).v,.int .i64 (T (9)).t,.int .i64 (T (9)).p,.int .i64 (T (9)).f,.bool (T (9)).w,.bool (T (9)).u,.bool (T (9)).x,.bool (T (9)).g,.bool (T (9)).d,.bool (T (10)).v,.int .i64 (T (10)).t,.int .i64 (T (10)).p,.int .i64 (T (10)).f,.bool (T (10)).w,.bool (T (10)).u,.bool (T (10)).x,.bool (T (10)).g,.bool (T (10)).d,.bool (T (11)).v,.int .i64 (T (11)).t,.int .i64 (T (11)).p,.int .i64 (T (11)).f,.bool (T (11)).w,.bool (T (11)).u,.bool (T (11)).x,.bool (T (11)).g,.bool (T (11)).d,.bool (T (12)).v,.int .i64 (T (12)).t,.int .i64 (T (12)).p,.int .i64 (T (12)).f,.bool (T (12)).w,.bool (T (12)).u,.bool (T (12)).x,.bool (T (12)).g,.bool (T (12)).d,.bool (T (13)).v,.int .i64 (T (13)).t,.int .i64 (T (13)).p,.int .i64 (T (13)).f,.bool (T (13)).w,.bool (T (13)).u,.bool (T (13)).x,.bool (T (13)).g,.bool (T (13)).d,.bool (T (14)).v,.int .i64 (T (14)).t,.int .i64 (T (14)).p,.int .i64 (T (14)).f,.bool (T (14)).w,.bool (T (14)).u,.bool (T (14)).x,.bool (T (14)).g,.bool (T (14)).d,.bool (T (15)).v,.int .i64 (T (15)).t,.int .i64 (T (15)).p,.int .i64 (T (15)).f,.bool (T (15)).w,.bool (T (15)).u,.bool (T (15)).x,.bool (T (15)).g,.bool (T (15)).d]
end Go.Proofs.YtajfbieacfjhnaaGreatDoor.Tl
namespace Go.Proofs.YtajfbieacfjhnaaGreatDoor.Tl
open Go.ChangeShapes Go.WideShapes Go.ChangeAt Go.RowKit Go.Maps
set_option linter.unusedSimpArgs false
set_option linter.unusedVariables false
set_option maxRecDepth 8000
end Go.Proofs.YtajfbieacfjhnaaGreatDoor.Tl
namespace Go.Proofs.YtajfbieacfjhnaaGreatDoor.Tl
open Go.ChangeShapes Go.WideShapes Go.ChangeAt Go.RowKit Go.Maps
set_option linter.unusedSimpArgs false
set_option linter.unusedVariables false
set_option maxRecDepth 8000
def T0:Nat->Ln:=fun _=>Ln.zero
theorem flat_get (T:Nat->Ln) (q r:Nat) (q16:q<16) (r9:r<9):(flatT T)[q*9+r]? =(T q).enc[r]? :=by
 rcases (show q=0\/q=1\/q=2\/q=3\/q=4\/q=5\/q=6\/q=7\/q=8\/q=9\/q=10\/q=11\/q=12\/q=13\/q=14\/q=15 by omega) with rfl | rfl | rfl | rfl | rfl | rfl | rfl | rfl | rfl | rfl | rfl | rfl | rfl | rfl | rfl | rfl <;> rcases (show r=0\/r=1\/r=2\/r=3\/r=4\/r=5\/r=6\/r=7\/r=8 by omega) with rfl | rfl | rfl | rfl | rfl | rfl | rfl | rfl | rfl <;> rfl
theorem zero30: ∃ Zs:Array Value,(∀ W:World,(zeroValue 122).run Tryz.prog W=.ok (.agg Zs) W)/\Zs.size=144/\ ∀ q r,q<16->r<9->Zs[q*9+r]? =Ln.zero.enc[r]? :=
 ⟨(flatT T0).toArray,fun W=>by kernel_rfl,rfl,fun q r h1 h2=>by rw [List.getElem?_toArray];exact flat_get T0 q r h1 h2⟩
theorem IsTlb.made (w:World) (Zs:Array Value) (hs:Zs.size=144) (hz: ∀ q r,q<16->r<9->Zs[q*9+r]? =Ln.zero.enc[r]?):IsTlb (w.alloc (.cells Zs 122)) w.heap.size T0:=by
 refine ⟨fun i hi j v hv=> ?_,?_,by simp⟩
 . have hj:j<9:=(List.getElem?_eq_some_iff.1 hv).1
   exact (Go.Joins.cell_of_block (own1 w _) _).trans ((hz i j hi hj).trans hv)
 . have:=there_block (own1 w (.cells Zs 122))
   rwa [hs] at this
def Own (w W:World) (b:Nat) (T:Nat->Ln):Prop:=IsTlb W b T/\Below w.heap.size w W/\w.heap.size<=b
def l9:Ln:=⟨true,1,9,5,false,false,false,false,false⟩
end Go.Proofs.YtajfbieacfjhnaaGreatDoor.Tl
