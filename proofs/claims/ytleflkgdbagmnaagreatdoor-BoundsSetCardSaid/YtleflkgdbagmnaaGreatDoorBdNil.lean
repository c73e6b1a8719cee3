/- errors.Is of no error. -/
import Derived.Test.YtleflkgdbagmnaaGreatDoorPlAs
namespace Go.Proofs.YtleflkgdbagmnaaGreatDoor.BdF
open Go.RowKit Go.Extern.Stop Go.Stop Go.Extern Go.Proofs.YtleflkgdbagmnaaGreatDoor.Sm Go.Proofs.YtleflkgdbagmnaaGreatDoor.Dp Go.Proofs.YtleflkgdbagmnaaGreatDoor.Pl
set_option maxHeartbeats 400000
set_option maxRecDepth 100000
theorem is_nil (b : Addr) (w : World) : Calls Tryz.prog 60 #[.nilIface, .iface 152 (.pointer (some b))] w fun e w' => e = .returned (.bool false) ∧ w = w' := by
  have hq : (binOp .eql 47 .nilIface (.iface 152 (.pointer (some b)))).run Tryz.prog w = .ok (.bool false) w := by kernel_rfl
  go_enter Tryz.func60, Tryz.ntmps60
  go_wp2
  go_ret
  exact ⟨rfl, rfl⟩
end Go.Proofs.YtleflkgdbagmnaaGreatDoor.BdF
