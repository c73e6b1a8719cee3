/- Deep reckoning: orders that meet again behind a region. No function of the program in it. -/
import Derived.Test.YtleflkgdbagmnaaDoorDpW
namespace Go.Proofs.YtleflkgdbagmnaaDoor.Dp
open Go.RowKit Go.Proofs.YtleflkgdbagmnaaDoor.Sm
set_option maxHeartbeats 1000000
set_option linter.unusedVariables false
/-- a region whose orders all end in one state. -/
theorem PW.oj {P : Program} {N : Nat} {x y : Code} {Q : Exit → St → Prop} {s : St} (S : St) (hy : PW P N y Q S) (hx : PW P N x (thenD (fun s' => s' = S) Q) s) : PW P N (.seq x y) Q s := by
  refine PW.seq (PW.mono hx fun e s' h => ?_)
  cases e with
  | normal =>
    have h' : s' = S := h
    subst h'
    exact hy
  | _ => exact h
end Go.Proofs.YtleflkgdbagmnaaDoor.Dp
