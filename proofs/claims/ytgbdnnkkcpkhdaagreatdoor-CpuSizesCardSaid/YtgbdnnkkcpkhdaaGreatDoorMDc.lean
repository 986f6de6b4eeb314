import Derived.Test.YtgbdnnkkcpkhdaaGreatDoorMCc
set_option linter.unusedSimpArgs false
set_option linter.unusedVariables false
set_option maxRecDepth 8000
open Go.ChangeShapes Go.WideShapes Go.ChangeAt Go.RowKit Go.Maps
namespace Go.Proofs.YtgbdnnkkcpkhdaaGreatDoor.Tt
theorem lt_of_cell {w:World} {a:Addr} {v:Value} (h:w.cell? a=some v):a.block<w.heap.size:=by
 unfold World.cell? at h
 by_cases c:a.block<w.heap.size
 . exact c
 . rw [Array.getElem?_eq_none (by omega)] at h
   simp at h
structure B3 where
 x:Bool
 y:Bool
 z:Bool
abbrev B3.val (s:B3):Value:=.agg (sn s.x s.y s.z)
end Go.Proofs.YtgbdnnkkcpkhdaaGreatDoor.Tt
