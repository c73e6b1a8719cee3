/- The document's own Good. -/
import Derived.Test.YtgklghpkfmoogaaGreatDoorPlReach
namespace Go.Proofs.YtgklghpkfmoogaaGreatDoor.Pl
open Go.RowKit Go.Proofs.YtgklghpkfmoogaaGreatDoor.Sm Go.Proofs.YtgklghpkfmoogaaGreatDoor.Dp
set_option maxHeartbeats 4000000
set_option maxRecDepth 100000
set_option linter.unusedVariables false
set_option linter.unusedSimpArgs false
def goodB (c:Config) (part:Int):Bool:=((checkR c).1 == (0:Int))&&isB part c.parts.length
theorem drumlineref5_Good_pc (c:Config) (part:Int) (hp0:c.parts.length<1000000) (hl0:c.links.length<1000000):PC Tryz.prog [] 37 [D.r (Config.d c),I part] (· = D.v (.bool (goodB c part))):=by
 refine PC.of (N:=21) Tryz.func37 rfl rfl (Nat.le_of_ble_eq_true rfl) ?_
 refine PW.sr [1,2] 1 trivial ?_
 refine PW.sg ?_
 refine PL.rw 1 [1,2,8] 1 trivial ?_
 refine PL.gc (A:=[]) (fun _=>drumlineref5_Check_pc c hp0 hl0) ?_
 refine PL.rw 5 [1,2,5] 1 trivial ?_
 refine PL.nl ?_
 refine PW.sg ?_
 refine PL.rw 7 [14,15,18] 1 trivial ?_
 refine PL.gc (A:=[(14,true)]) (fun _=>drumlineref5_is_pc part (c.parts.length:Int)) ?_
 refine PL.rw 2 [4] 1 trivial ?_
 refine PL.nl ?_
 refine PW.ret ?_
 refine retQ_ret (d:=D.v (.bool ((((checkR c).1) == (0:Int))&&(isB part (c.parts.length:Int))))) (ps:=[]) kR trivial ?_
 rfl
end Go.Proofs.YtgklghpkfmoogaaGreatDoor.Pl
