/- The networks that the document's own Made makes, as plain data; bits of whole numbers. -/
import Derived.Test.YtleflkgdbagmnaaGreatDoorHpGood
namespace Go.Proofs.YtleflkgdbagmnaaGreatDoor.Pl
open Go.RowKit Go.Proofs.YtleflkgdbagmnaaGreatDoor.Sm Go.Proofs.YtleflkgdbagmnaaGreatDoor.Dp
set_option maxHeartbeats 1000000
set_option linter.unusedVariables false
/-- how many ports a part has by the first n links. -/
def cntL (ls : List Link) (part : Int) : Nat → Int
  | 0 => 0
  | n + 1 => if (ls.getD n default).a = part ∨ (ls.getD n default).b = part then cntL ls part n + 2 else cntL ls part n
def portsI (ls : List Link) (part : Int) : Int := cntL ls part ls.length
theorem cntL_in (ls : List Link) (part : Int) : ∀ n : Nat, 0 ≤ cntL ls part n ∧ cntL ls part n ≤ 2 * (n : Int)
  | 0 => by simp [cntL]
  | n + 1 => by
    have := cntL_in ls part n
    unfold cntL
    split <;> omega
end Go.Proofs.YtleflkgdbagmnaaGreatDoor.Pl
