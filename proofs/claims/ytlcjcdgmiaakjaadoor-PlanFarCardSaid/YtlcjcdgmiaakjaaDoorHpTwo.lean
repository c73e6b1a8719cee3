/- slices.Max. -/
import Derived.Test.YtlcjcdgmiaakjaaDoorHpGood
namespace Go.Proofs.YtlcjcdgmiaakjaaDoor.Pl
open Go.RowKit Go.Proofs.YtlcjcdgmiaakjaaDoor.Sm Go.Proofs.YtlcjcdgmiaakjaaDoor.Dp
set_option maxHeartbeats 4000000
set_option maxRecDepth 100000
set_option linter.unusedVariables false
set_option linter.unusedSimpArgs false
end Go.Proofs.YtlcjcdgmiaakjaaDoor.Pl
