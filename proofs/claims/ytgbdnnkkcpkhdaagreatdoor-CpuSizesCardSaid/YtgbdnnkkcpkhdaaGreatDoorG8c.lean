import Derived.Test.YtgbdnnkkcpkhdaaGreatDoorG6c
import Derived.RegionTactic
import Derived.BigRegion
import Derived.Deep.DeepCutAuto
set_option linter.unusedSimpArgs false
set_option linter.unusedVariables false
set_option maxRecDepth 8000
open Go.ChangeShapes Go.WideShapes Go.ChangeAt Go.RowKit Go.Maps
namespace Go.Proofs.YtgbdnnkkcpkhdaaGreatDoor.Re
end Go.Proofs.YtgbdnnkkcpkhdaaGreatDoor.Re
