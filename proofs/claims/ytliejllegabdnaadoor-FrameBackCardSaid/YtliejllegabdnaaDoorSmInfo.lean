/- What a byte is to the program. -/
import Derived.Test.YtliejllegabdnaaDoorRows
import Derived.Test.YtliejllegabdnaaDoorSmMem
import Derived.WalkSpells
namespace Go.Proofs.YtliejllegabdnaaDoor.Sm
open Go.ChangeShapes Go.WideShapes Go.ChangeAt Go.RowKit
set_option maxHeartbeats 400000

theorem byte_info : (Tryd.prog.info? 5).map (fun i => (i.zero, i.size, i.bytes)) = some (some (.int .u8 0), 1, 1) := by kernel_rfl
end Go.Proofs.YtliejllegabdnaaDoor.Sm
