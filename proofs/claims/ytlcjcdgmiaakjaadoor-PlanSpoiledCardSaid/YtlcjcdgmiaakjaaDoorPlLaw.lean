/- Chapter 5's laws: num, small, PlanChecks. -/
import Derived.Test.YtlcjcdgmiaakjaaDoorPlReach
namespace Go.Proofs.YtlcjcdgmiaakjaaDoor.Pl
open Go.RowKit Go.Proofs.YtlcjcdgmiaakjaaDoor.Sm Go.Proofs.YtlcjcdgmiaakjaaDoor.Dp
set_option maxHeartbeats 4000000
set_option maxRecDepth 100000
set_option linter.unusedVariables false
set_option linter.unusedSimpArgs false
theorem drumlinelaw5_num_pc (n : Int) : PC Tryd.prog [] 16 [I n] (· = I n) := by
  refine PC.of (N := 4) Tryd.func16 rfl rfl (Nat.le_of_ble_eq_true rfl) ?_
  refine PW.seq ?_
  refine PW.region ?_
  refine PL.rowK 1 [0] 0 (s' := { tab := [⟨0, [], I n⟩], mem := [] }) (p := True) (by kernel_rfl) (by trivial) ?_
  refine PL.nil ?_
  show PW _ _ _ _ _
  refine PW.seq ?_
  refine PW.region ?_
  refine PL.rowK 2 [2] 0 (s' := { tab := [⟨2, [], I n⟩], mem := [] }) (p := True) (by kernel_rfl) (by trivial) ?_
  refine PL.nil ?_
  show PW _ _ _ _ _
  refine PW.ret ?_
  refine retQ_ret (d := I n) (ps := []) (by kernel_rfl) trivial ?_
  rfl
end Go.Proofs.YtlcjcdgmiaakjaaDoor.Pl
