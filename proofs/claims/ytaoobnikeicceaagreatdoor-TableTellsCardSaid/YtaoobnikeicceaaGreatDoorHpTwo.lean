/- slices.Max. -/
import Derived.Test.YtaoobnikeicceaaGreatDoorHpGood
namespace Go.Proofs.YtaoobnikeicceaaGreatDoor.Pl
open Go.RowKit Go.Proofs.YtaoobnikeicceaaGreatDoor.Sm Go.Proofs.YtaoobnikeicceaaGreatDoor.Dp
set_option maxHeartbeats 4000000
set_option maxRecDepth 100000
set_option linter.unusedVariables false
set_option linter.unusedSimpArgs false
end Go.Proofs.YtaoobnikeicceaaGreatDoor.Pl
