/- Chapter 5's laws: num, small, PlanChecks. -/
import Derived.Test.YtgklghpkfmoogaaGreatDoorPlReach
namespace Go.Proofs.YtgklghpkfmoogaaGreatDoor.Pl
open Go.RowKit Go.Proofs.YtgklghpkfmoogaaGreatDoor.Sm Go.Proofs.YtgklghpkfmoogaaGreatDoor.Dp
set_option maxHeartbeats 4000000
set_option maxRecDepth 100000
set_option linter.unusedVariables false
set_option linter.unusedSimpArgs false
def smallB (c:Config):Bool:=decide ((c.parts.length:Int)≤20)&&decide ((c.links.length:Int)≤30)
theorem smallB_true (c:Config):smallB c=true↔c.parts.length≤20∧c.links.length≤30:=by unfold smallB; simp only [Bool.and_eq_true,decide_eq_true_eq]; omega
theorem smallB_false (c:Config):smallB c=false↔¬ (c.parts.length≤20∧c.links.length≤30):=by rw [← smallB_true]; simp
end Go.Proofs.YtgklghpkfmoogaaGreatDoor.Pl
