/- errors.Is of no error. -/
import Derived.Test.YtagdeldgpkjjjaaDoorPlAs
namespace Go.Proofs.YtagdeldgpkjjjaaDoor.BdF
open Go.RowKit Go.Extern.Stop Go.Stop Go.Extern Go.Proofs.YtagdeldgpkjjjaaDoor.Sm Go.Proofs.YtagdeldgpkjjjaaDoor.Dp Go.Proofs.YtagdeldgpkjjjaaDoor.Pl
set_option maxHeartbeats 400000
set_option maxRecDepth 100000
theorem is_nil (b : Addr) (w : World) : Calls Tryd.prog 46 #[.nilIface, .iface 128 (.pointer (some b))] w fun e w' => e = .returned (.bool false) ∧ w = w' := by
  have hq : (binOp .eql 53 .nilIface (.iface 128 (.pointer (some b)))).run Tryd.prog w = .ok (.bool false) w := by kernel_rfl
  go_enter Tryd.func46, Tryd.ntmps46
  go_wp2
  go_ret
  exact ⟨rfl, rfl⟩
end Go.Proofs.YtagdeldgpkjjjaaDoor.BdF
