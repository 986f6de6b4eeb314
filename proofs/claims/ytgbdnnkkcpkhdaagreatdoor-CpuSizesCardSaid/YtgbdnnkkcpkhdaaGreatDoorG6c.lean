import Derived.Test.YtgbdnnkkcpkhdaaGreatDoorGAc
set_option linter.unusedSimpArgs false
set_option linter.unusedVariables false
set_option maxRecDepth 8000
open Go.ChangeShapes Go.WideShapes Go.ChangeAt Go.RowKit Go.Maps
namespace Go.Proofs.YtgbdnnkkcpkhdaaGreatDoor.Re
def Rg.may (r:Rg) (a b c:Bool):Rg:=⟨r.fr,r.tt,a,b,c,r.kd⟩
def Rg.mid (r:Rg) (f t:Int):Rg:=⟨max r.fr f,min r.tt t,r.w,r.u,r.x,r.kd⟩
def Rg.from (r:Rg) (t:Int):Rg:=⟨t,r.tt,r.w,r.u,r.x,r.kd⟩
def part (G:Rg->Rg) (f t:Int) (M:List Rg) (r:Rg):List Rg:=withL (withL (withL M (r.upto (min r.tt f))) (G (r.mid f t))) (r.from (max r.fr t))
def Res (w':World) (base:Nat) (v:Value) (er:Int) (M:List Rg):Prop:=(M.length<=64/\er=0/\OwnL w' base v M)\/(64<M.length/\er=4/\v=.slice none 0 0)
theorem WithK.below {w w':World} {v v':Value} {b:Nat} {L:List Rg} (h:WithK w w' v v') (ho:OwnL w b v L) (hb:b<=w.heap.size):Below b w w':=⟨h.1.os,h.1.tape,h.1.output,h.1.size,fun k hk=>h.1.block k (by omega) (fun e=>by have:=World.ownsRow.lt ho k e.symm;omega)⟩
theorem blk_lt {w:World} {b:Nat} {o:Obj} (h:w.heap[b]? =some o):b<w.heap.size:=(Array.getElem?_eq_some_iff.1 h).1
end Go.Proofs.YtgbdnnkkcpkhdaaGreatDoor.Re
