import Derived.Test.YtajfbieacfjhnaaGreatDoorG6c
import Derived.RegionTactic
import Derived.BigRegion
import Derived.Deep.DeepCutAuto
namespace Go.Proofs.YtajfbieacfjhnaaGreatDoor.Re
open Go.ChangeShapes Go.WideShapes Go.ChangeAt Go.RowKit Go.Maps
set_option linter.unusedSimpArgs false
set_option linter.unusedVariables false
set_option maxRecDepth 8000
end Go.Proofs.YtajfbieacfjhnaaGreatDoor.Re
