/- The document's own Good. -/
import Derived.Test.YtleflkgdbagmnaaGreatDoorPlReach
namespace Go.Proofs.YtleflkgdbagmnaaGreatDoor.Pl
open Go.RowKit Go.Proofs.YtleflkgdbagmnaaGreatDoor.Sm Go.Proofs.YtleflkgdbagmnaaGreatDoor.Dp
set_option maxHeartbeats 4000000
set_option maxRecDepth 100000
set_option linter.unusedVariables false
set_option linter.unusedSimpArgs false
def goodB (c : Config) (part : Int) : Bool := ((checkR c).1 == (0 : Int)) && isB part c.parts.length
theorem drumlineref5_Good_pc (c : Config) (part : Int) (hp0 : c.parts.length < 1000000) (hl0 : c.links.length < 1000000) : PC Tryz.prog [] 52 [D.r (Config.d c), I part] (· = D.v (.bool (goodB c part))) := by
  refine PC.of (N := 21) Tryz.func52 rfl rfl (Nat.le_of_ble_eq_true rfl) ?_
  refine PW.seq ?_
  refine PW.region ?_
  refine PL.rowK 2 [1, 2] 1 (s' := { tab := [⟨1, [], I part⟩, ⟨2, [], D.p 0 0 0 0⟩], mem := [Obj.var 25 (Config.d c)] }) (p := True) (by kernel_rfl) (by trivial) ?_
  refine PL.nil ?_
  show PW _ _ _ _ _
  refine PW.seq ?_
  refine PW.region ?_
  refine PL.rowK 1 [1, 2, 8] 1 (s' := { tab := [⟨1, [], I part⟩, ⟨2, [], D.p 0 0 0 0⟩, ⟨8, [], D.r (Config.d c)⟩], mem := [Obj.var 25 (Config.d c)] }) (p := True) (by kernel_rfl) (by trivial) ?_
  refine PL.gcall (A := []) (f := 47) (ds := [D.r (Config.d c)]) (by kernel_rfl) (by kernel_rfl) (by kernel_rfl) (by kernel_rfl) (by kernel_rfl) rfl (D.t [I ((checkR c).1), I ((checkR c).2)]) (fun _ => drumlineref5_Check_pc c hp0 hl0) ?_
  refine PL.rowK 5 [1, 2, 5] 1 (s' := { tab := [⟨1, [], I part⟩, ⟨2, [], D.p 0 0 0 0⟩, ⟨5, [], I ((checkR c).1)⟩], mem := [Obj.var 25 (Config.d c)] }) (p := True) (by kernel_rfl) (by trivial) ?_
  refine PL.nil ?_
  show PW _ _ _ _ _
  refine PW.seq ?_
  refine PW.region ?_
  refine PL.rowK 7 [14, 15, 18] 1 (s' := { tab := [⟨14, [], D.v (.bool (((checkR c).1) == (0 : Int)))⟩, ⟨15, [(14, true)], I part⟩, ⟨18, [(14, true)], I (c.parts.length : Int)⟩], mem := [Obj.var 25 (Config.d c)] }) (p := True) (by kernel_rfl) (by trivial) ?_
  refine PL.gcall (A := [(14, true)]) (f := 58) (ds := [I part, I (c.parts.length : Int)]) (by kernel_rfl) (by kernel_rfl) (by kernel_rfl) (by kernel_rfl) (by kernel_rfl) rfl (D.v (.bool (isB part (c.parts.length : Int)))) (fun _ => drumlineref5_is_pc part (c.parts.length : Int)) ?_
  refine PL.rowK 2 [4] 1 (s' := { tab := [⟨4, [], D.v (.bool ((((checkR c).1) == (0 : Int)) && (isB part (c.parts.length : Int))))⟩], mem := [Obj.var 25 (Config.d c)] }) (p := True) (by kernel_rfl) (by trivial) ?_
  refine PL.nil ?_
  show PW _ _ _ _ _
  refine PW.ret ?_
  refine retQ_ret (d := D.v (.bool ((((checkR c).1) == (0 : Int)) && (isB part (c.parts.length : Int))))) (ps := []) (by kernel_rfl) trivial ?_
  rfl
end Go.Proofs.YtleflkgdbagmnaaGreatDoor.Pl
