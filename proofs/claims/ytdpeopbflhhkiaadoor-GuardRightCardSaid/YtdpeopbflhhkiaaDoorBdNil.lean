/- errors.Is of no error. -/
import Derived.Test.YtdpeopbflhhkiaaDoorPlAs
namespace Go.Proofs.YtdpeopbflhhkiaaDoor.BdF
open Go.RowKit Go.Extern.Stop Go.Stop Go.Extern Go.Proofs.YtdpeopbflhhkiaaDoor.Sm Go.Proofs.YtdpeopbflhhkiaaDoor.Dp Go.Proofs.YtdpeopbflhhkiaaDoor.Pl
set_option maxHeartbeats 400000
set_option maxRecDepth 100000
theorem is_nil (b : Addr) (w : World) : Calls Tryd.prog 40 #[.nilIface, .iface 127 (.pointer (some b))] w fun e w' => e = .returned (.bool false) ∧ w = w' := by
  have hq : (binOp .eql 52 .nilIface (.iface 127 (.pointer (some b)))).run Tryd.prog w = .ok (.bool false) w := by kernel_rfl
  go_enter Tryd.func40, Tryd.ntmps40
  go_wp2
  go_ret
  exact ⟨rfl, rfl⟩
end Go.Proofs.YtdpeopbflhhkiaaDoor.BdF
