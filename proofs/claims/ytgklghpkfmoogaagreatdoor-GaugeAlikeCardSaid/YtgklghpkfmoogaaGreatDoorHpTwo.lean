/- slices.Max. -/
import Derived.Test.YtgklghpkfmoogaaGreatDoorHpGood
namespace Go.Proofs.YtgklghpkfmoogaaGreatDoor.Pl
open Go.RowKit Go.Proofs.YtgklghpkfmoogaaGreatDoor.Sm Go.Proofs.YtgklghpkfmoogaaGreatDoor.Dp
set_option maxHeartbeats 4000000
set_option maxRecDepth 100000
set_option linter.unusedVariables false
set_option linter.unusedSimpArgs false
def maxTo (xs:List Int):Nat→Int
 | 0=>xs.getD 0 default
 | i+1=>if xs.getD i default>maxTo xs i then xs.getD i default else maxTo xs i
end Go.Proofs.YtgklghpkfmoogaaGreatDoor.Pl
