/- Package plan's Ports. -/
import Derived.Test.YtagdeldgpkjjjaaDoorPlPort
import Derived.Test.YtagdeldgpkjjjaaDoorPlSortC
import Derived.Test.YtagdeldgpkjjjaaDoorPlTwelve
namespace Go.Proofs.YtagdeldgpkjjjaaDoor.Pl
open Go.RowKit Go.Proofs.YtagdeldgpkjjjaaDoor.Sm Go.Proofs.YtagdeldgpkjjjaaDoor.Dp
set_option maxHeartbeats 4000000
set_option maxRecDepth 100000
set_option linter.unusedVariables false
set_option linter.unusedSimpArgs false
end Go.Proofs.YtagdeldgpkjjjaaDoor.Pl
