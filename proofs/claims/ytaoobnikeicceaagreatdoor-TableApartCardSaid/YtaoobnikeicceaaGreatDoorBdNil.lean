/- errors.Is of no error. -/
import Derived.Test.YtaoobnikeicceaaGreatDoorPlAs
namespace Go.Proofs.YtaoobnikeicceaaGreatDoor.BdF
open Go.RowKit Go.Extern.Stop Go.Stop Go.Extern Go.Proofs.YtaoobnikeicceaaGreatDoor.Sm Go.Proofs.YtaoobnikeicceaaGreatDoor.Dp Go.Proofs.YtaoobnikeicceaaGreatDoor.Pl
set_option maxHeartbeats 400000
set_option maxRecDepth 100000
theorem is_nil (b : Addr) (w : World) : Calls Tryz.prog 61 #[.nilIface, .iface 165 (.pointer (some b))] w fun e w' => e = .returned (.bool false) ∧ w = w' := by
  have hq : (binOp .eql 68 .nilIface (.iface 165 (.pointer (some b)))).run Tryz.prog w = .ok (.bool false) w := by kernel_rfl
  go_enter Tryz.func61, Tryz.ntmps61
  go_wp2
  go_ret
  exact ⟨rfl, rfl⟩
end Go.Proofs.YtaoobnikeicceaaGreatDoor.BdF
