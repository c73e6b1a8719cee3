/- errors.Is of no error. -/
import Derived.Test.YthoddfmlemihgaaGreatDoorPlAs
namespace Go.Proofs.YthoddfmlemihgaaGreatDoor.BdF
open Go.RowKit Go.Extern.Stop Go.Stop Go.Extern Go.Proofs.YthoddfmlemihgaaGreatDoor.Sm Go.Proofs.YthoddfmlemihgaaGreatDoor.Dp Go.Proofs.YthoddfmlemihgaaGreatDoor.Pl
set_option maxHeartbeats 400000
set_option maxRecDepth 100000
theorem is_nil (b : Addr) (w : World) : Calls Tryz.prog 63 #[.nilIface, .iface 155 (.pointer (some b))] w fun e w' => e = .returned (.bool false) ∧ w = w' := by
  have hq : (binOp .eql 51 .nilIface (.iface 155 (.pointer (some b)))).run Tryz.prog w = .ok (.bool false) w := by kernel_rfl
  go_enter Tryz.func63, Tryz.ntmps63
  go_wp2
  go_ret
  exact ⟨rfl, rfl⟩
end Go.Proofs.YthoddfmlemihgaaGreatDoor.BdF
