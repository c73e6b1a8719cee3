/- slices.SortFunc of at most twelve ports. -/
import Derived.Test.YtagdeldgpkjjjaaDoorPlSortB
namespace Go.Proofs.YtagdeldgpkjjjaaDoor.Pl
open Go.RowKit Go.Proofs.YtagdeldgpkjjjaaDoor.Sm Go.Proofs.YtagdeldgpkjjjaaDoor.Dp
set_option maxHeartbeats 4000000
set_option maxRecDepth 100000
set_option linter.unusedVariables false
set_option linter.unusedSimpArgs false
theorem wrap0 (n : Nat) (h : n ≤ 12) : IntKind.i64.wrap ((n : Int) - 0) = (n : Int) := by rw [Ev.wrap_i64 (by omega) (by omega)]; omega
end Go.Proofs.YtagdeldgpkjjjaaDoor.Pl
