/- Chapter 7, the document's own: ports, fits. -/
import Derived.Test.YthoddfmlemihgaaGreatDoorBdFour
namespace Go.Proofs.YthoddfmlemihgaaGreatDoor.Pl
open Go.RowKit Go.Proofs.YthoddfmlemihgaaGreatDoor.Sm Go.Proofs.YthoddfmlemihgaaGreatDoor.Dp
set_option maxHeartbeats 4000000
set_option maxRecDepth 100000
set_option linter.unusedVariables false
set_option linter.unusedSimpArgs false
end Go.Proofs.YthoddfmlemihgaaGreatDoor.Pl
