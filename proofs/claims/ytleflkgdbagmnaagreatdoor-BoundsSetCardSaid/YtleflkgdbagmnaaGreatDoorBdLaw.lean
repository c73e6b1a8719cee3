/- Chapter 7's laws: alive, BoundsFits, BoundsTells. -/
import Derived.Test.YtleflkgdbagmnaaGreatDoorBdSix
namespace Go.Proofs.YtleflkgdbagmnaaGreatDoor.Pl
open Go.RowKit Go.Proofs.YtleflkgdbagmnaaGreatDoor.Sm Go.Proofs.YtleflkgdbagmnaaGreatDoor.Dp
set_option maxHeartbeats 4000000
set_option maxRecDepth 100000
set_option linter.unusedVariables false
set_option linter.unusedSimpArgs false
theorem sa1 : edgeR sampleC = 5 := by kernel_rfl
theorem sa2 : slewR sampleC = 2 := by kernel_rfl
theorem sa3 : stepR sampleC = 26 := by kernel_rfl
theorem sa4 : fitsP sampleC = (0, 0) := by kernel_rfl
theorem drumlinelaw7_alive_pc (e : Nat → Addr) (hA : Apart e) : PC Tryz.prog (errG3 e) 6 [] (· = D.v (.bool true)) := by
 refine PC.of (N := 34) Tryz.func6 rfl rfl (Nat.le_of_ble_eq_true rfl) ?_
 refine PW.sr [] 0 trivial ?_
 refine PW.sg ?_
 refine PL.gc (G := (errG3 e)) (A := []) (fun _ => PC.more (drumlinelaw7_sample_pc)) ?_
 refine PL.gc (A := []) (fun _ => bounds_Fits_pc e hA sampleC (by decide) (by decide)) ?_
 refine PL.rw 5 [1, 2] 0 trivial ?_
 refine PL.nl ?_
 refine PW.sg ?_
 refine PL.gc (G := (errG3 e)) (A := []) (fun _ => PC.more (drumlinelaw7_sample_pc)) ?_
 refine PL.gc (A := []) (fun _ => bounds_Edge_pc e hA sampleC (by decide) (by decide)) ?_
 refine PL.rw 2 [1, 2, 11] 0 trivial ?_
 refine PL.gc (G := (errG3 e)) (A := [(11, true)]) (fun _ => PC.more (drumlinelaw7_sample_pc)) ?_
 refine PL.gc (A := [(11, true)]) (fun _ => bounds_Near_pc e hA sampleC (by decide) (by decide)) ?_
 refine PL.rw 3 [1, 2, 16] 0 trivial ?_
 refine PL.gc (G := (errG3 e)) (A := [(16, true)]) (fun _ => PC.more (drumlinelaw7_sample_pc)) ?_
 refine PL.gc (A := [(16, true)]) (fun _ => bounds_Slew_pc e hA sampleC (by decide) (by decide)) ?_
 refine PL.rw 3 [1, 2, 21] 0 trivial ?_
 refine PL.gc (G := (errG3 e)) (A := [(21, true)]) (fun _ => PC.more (drumlinelaw7_sample_pc)) ?_
 refine PL.gc (A := [(21, true)]) (fun _ => bounds_Step_pc e hA sampleC (by decide) (by decide)) ?_
 refine PL.rw 11 [0] 0 trivial ?_
 refine PL.nl ?_
 refine PW.ret ?_
 refine retQ_ret (d := D.v (.bool (((((((edgeR sampleC) == (5 : Int)) && ((2 * edgeR sampleC) == (10 : Int))) && ((slewR sampleC) == (2 : Int))) && ((stepR sampleC) == (26 : Int))) && (((fitsP sampleC).1) == (0 : Int))) && (((fitsP sampleC).2) == (0 : Int))))) (ps := []) (by kernel_rfl) trivial ?_
 rw [sa1, sa2, sa3, sa4]
 rfl
end Go.Proofs.YtleflkgdbagmnaaGreatDoor.Pl
