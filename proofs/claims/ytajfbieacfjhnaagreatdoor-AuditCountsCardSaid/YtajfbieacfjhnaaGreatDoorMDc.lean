import Derived.Test.YtajfbieacfjhnaaGreatDoorMCc
namespace Go.Proofs.YtajfbieacfjhnaaGreatDoor.Tt
open Go.ChangeShapes Go.WideShapes Go.ChangeAt Go.RowKit Go.Maps
set_option linter.unusedSimpArgs false
set_option linter.unusedVariables false
set_option maxRecDepth 8000
end Go.Proofs.YtajfbieacfjhnaaGreatDoor.Tt
namespace Go.Proofs.YtajfbieacfjhnaaGreatDoor.Tt
open Go.ChangeShapes Go.WideShapes Go.ChangeAt Go.RowKit Go.Maps
set_option linter.unusedSimpArgs false
set_option linter.unusedVariables false
set_option maxRecDepth 8000
end Go.Proofs.YtajfbieacfjhnaaGreatDoor.Tt
namespace Go.Proofs.YtajfbieacfjhnaaGreatDoor.Tt
open Go.ChangeShapes Go.WideShapes Go.ChangeAt Go.RowKit Go.Maps
set_option linter.unusedSimpArgs false
set_option linter.unusedVariables false
set_option maxRecDepth 8000
structure B3 where
 x:Bool
 y:Bool
 z:Bool
abbrev B3.val (s:B3):Value:=.agg #[.bool s.x,.bool s.y,.bool s.z]
end Go.Proofs.YtajfbieacfjhnaaGreatDoor.Tt
namespace Go.Proofs.YtajfbieacfjhnaaGreatDoor.Tt
open Go.ChangeShapes Go.WideShapes Go.ChangeAt Go.RowKit Go.Maps
set_option linter.unusedSimpArgs false
set_option linter.unusedVariables false
set_option maxRecDepth 8000
end Go.Proofs.YtajfbieacfjhnaaGreatDoor.Tt
namespace Go.Proofs.YtajfbieacfjhnaaGreatDoor.Tt
open Go.ChangeShapes Go.WideShapes Go.ChangeAt Go.RowKit Go.Maps
set_option linter.unusedSimpArgs false
set_option linter.unusedVariables false
set_option maxRecDepth 8000
end Go.Proofs.YtajfbieacfjhnaaGreatDoor.Tt
