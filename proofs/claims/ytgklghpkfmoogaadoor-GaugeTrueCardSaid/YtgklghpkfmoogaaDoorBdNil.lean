/- errors.Is of no error. -/
import Derived.Test.YtgklghpkfmoogaaDoorPlAs
namespace Go.Proofs.YtgklghpkfmoogaaDoor.BdF
open Go.RowKit Go.Extern.Stop Go.Stop Go.Extern Go.Proofs.YtgklghpkfmoogaaDoor.Sm Go.Proofs.YtgklghpkfmoogaaDoor.Dp Go.Proofs.YtgklghpkfmoogaaDoor.Pl
set_option maxHeartbeats 400000
set_option maxRecDepth 100000
theorem is_nil (b:Addr) (w:World):Calls Tryd.prog 42 #[.nilIface,.iface 128 (.pointer (some b))] w fun e w'=>e = .returned (.bool false)∧w=w':=by
 have hq:(binOp .eql 53 .nilIface (.iface 128 (.pointer (some b)))).run Tryd.prog w = .ok (.bool false) w:=by kernel_rfl
 go_enter Tryd.func42,Tryd.ntmps42
 go_wp2
 go_ret
 exact ⟨rfl,rfl⟩
end Go.Proofs.YtgklghpkfmoogaaDoor.BdF
