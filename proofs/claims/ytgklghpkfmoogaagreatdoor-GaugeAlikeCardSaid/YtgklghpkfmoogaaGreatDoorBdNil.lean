/- errors.Is of no error. -/
import Derived.Test.YtgklghpkfmoogaaGreatDoorPlAs
namespace Go.Proofs.YtgklghpkfmoogaaGreatDoor.BdF
open Go.RowKit Go.Extern.Stop Go.Stop Go.Extern Go.Proofs.YtgklghpkfmoogaaGreatDoor.Sm Go.Proofs.YtgklghpkfmoogaaGreatDoor.Dp Go.Proofs.YtgklghpkfmoogaaGreatDoor.Pl
set_option maxHeartbeats 400000
set_option maxRecDepth 100000
theorem is_nil (b:Addr) (w:World):Calls Tryz.prog 77 #[.nilIface,.iface 171 (.pointer (some b))] w fun e w'=>e = .returned (.bool false)∧w=w':=by
 have hq:(binOp .eql 76 .nilIface (.iface 171 (.pointer (some b)))).run Tryz.prog w = .ok (.bool false) w:=by kernel_rfl
 go_enter Tryz.func77,Tryz.ntmps77
 go_wp2
 go_ret
 exact ⟨rfl,rfl⟩
end Go.Proofs.YtgklghpkfmoogaaGreatDoor.BdF
