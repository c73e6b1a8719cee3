/- Chapter 7's laws: alive, BoundsFits, BoundsTells. -/
import Derived.Test.YthoddfmlemihgaaGreatDoorBdSix
namespace Go.Proofs.YthoddfmlemihgaaGreatDoor.Pl
open Go.RowKit Go.Proofs.YthoddfmlemihgaaGreatDoor.Sm Go.Proofs.YthoddfmlemihgaaGreatDoor.Dp
set_option maxHeartbeats 4000000
set_option maxRecDepth 100000
set_option linter.unusedVariables false
set_option linter.unusedSimpArgs false
theorem sa1 : edgeR sampleC = 5 := by kernel_rfl
theorem sa2 : slewR sampleC = 2 := by kernel_rfl
theorem sa3 : stepR sampleC = 26 := by kernel_rfl
theorem sa4 : fitsP sampleC = (0, 0) := by kernel_rfl
theorem drumlinelaw7_alive_pc (e : Nat → Addr) (hA : Apart e) : PC Tryz.prog (errG3 e) 9 [] (· = D.v (.bool true)) := by
  refine PC.of (N := 34) Tryz.func9 rfl rfl (Nat.le_of_ble_eq_true rfl) ?_
  refine PW.seq ?_
  refine PW.region ?_
  refine PL.rowK 1 [] 0 (s' := { tab := [], mem := [], gl := (errG3 e) }) (p := True) (by kernel_rfl) (by trivial) ?_
  refine PL.nil ?_
  show PW _ _ _ _ _
  refine PW.seq ?_
  refine PW.region ?_
  refine PL.gcall (A := []) (f := 31) (ds := []) (by kernel_rfl) (by kernel_rfl) (by kernel_rfl) (by kernel_rfl) (by kernel_rfl) rfl (D.r (Config.d sampleC)) (fun _ => PC.more (drumlinelaw7_sample_pc)) ?_
  refine PL.gcall (A := []) (f := 26) (ds := [D.r (Config.d sampleC)]) (by kernel_rfl) (by kernel_rfl) (by kernel_rfl) (by kernel_rfl) (by kernel_rfl) rfl (D.t [I ((fitsP sampleC).1), I ((fitsP sampleC).2)]) (fun _ => bounds_Fits_pc e hA sampleC (by decide) (by decide)) ?_
  refine PL.rowK 5 [1, 2] 0 (s' := { tab := [⟨1, [], I ((fitsP sampleC).1)⟩, ⟨2, [], I ((fitsP sampleC).2)⟩], mem := [], gl := (errG3 e) }) (p := True) (by kernel_rfl) (by trivial) ?_
  refine PL.nil ?_
  show PW _ _ _ _ _
  refine PW.seq ?_
  refine PW.region ?_
  refine PL.gcall (A := []) (f := 31) (ds := []) (by kernel_rfl) (by kernel_rfl) (by kernel_rfl) (by kernel_rfl) (by kernel_rfl) rfl (D.r (Config.d sampleC)) (fun _ => PC.more (drumlinelaw7_sample_pc)) ?_
  refine PL.gcall (A := []) (f := 10) (ds := [D.r (Config.d sampleC)]) (by kernel_rfl) (by kernel_rfl) (by kernel_rfl) (by kernel_rfl) (by kernel_rfl) rfl (I (edgeR sampleC)) (fun _ => bounds_Edge_pc e hA sampleC (by decide) (by decide)) ?_
  refine PL.rowK 2 [1, 2, 11] 0 (s' := { tab := [⟨1, [], I ((fitsP sampleC).1)⟩, ⟨2, [], I ((fitsP sampleC).2)⟩, ⟨11, [], D.v (.bool ((edgeR sampleC) == (5 : Int)))⟩], mem := [], gl := (errG3 e) }) (p := True) (by kernel_rfl) (by trivial) ?_
  refine PL.gcall (A := [(11, true)]) (f := 31) (ds := []) (by kernel_rfl) (by kernel_rfl) (by kernel_rfl) (by kernel_rfl) (by kernel_rfl) rfl (D.r (Config.d sampleC)) (fun _ => PC.more (drumlinelaw7_sample_pc)) ?_
  refine PL.gcall (A := [(11, true)]) (f := 12) (ds := [D.r (Config.d sampleC)]) (by kernel_rfl) (by kernel_rfl) (by kernel_rfl) (by kernel_rfl) (by kernel_rfl) rfl (I (2 * edgeR sampleC)) (fun _ => bounds_Near_pc e hA sampleC (by decide) (by decide)) ?_
  refine PL.rowK 3 [1, 2, 16] 0 (s' := { tab := [⟨1, [], I ((fitsP sampleC).1)⟩, ⟨2, [], I ((fitsP sampleC).2)⟩, ⟨16, [], D.v (.bool (((edgeR sampleC) == (5 : Int)) && ((2 * edgeR sampleC) == (10 : Int))))⟩], mem := [], gl := (errG3 e) }) (p := True) (by kernel_rfl) (by trivial) ?_
  refine PL.gcall (A := [(16, true)]) (f := 31) (ds := []) (by kernel_rfl) (by kernel_rfl) (by kernel_rfl) (by kernel_rfl) (by kernel_rfl) rfl (D.r (Config.d sampleC)) (fun _ => PC.more (drumlinelaw7_sample_pc)) ?_
  refine PL.gcall (A := [(16, true)]) (f := 14) (ds := [D.r (Config.d sampleC)]) (by kernel_rfl) (by kernel_rfl) (by kernel_rfl) (by kernel_rfl) (by kernel_rfl) rfl (I (slewR sampleC)) (fun _ => bounds_Slew_pc e hA sampleC (by decide) (by decide)) ?_
  refine PL.rowK 3 [1, 2, 21] 0 (s' := { tab := [⟨1, [], I ((fitsP sampleC).1)⟩, ⟨2, [], I ((fitsP sampleC).2)⟩, ⟨21, [], D.v (.bool ((((edgeR sampleC) == (5 : Int)) && ((2 * edgeR sampleC) == (10 : Int))) && ((slewR sampleC) == (2 : Int))))⟩], mem := [], gl := (errG3 e) }) (p := True) (by kernel_rfl) (by trivial) ?_
  refine PL.gcall (A := [(21, true)]) (f := 31) (ds := []) (by kernel_rfl) (by kernel_rfl) (by kernel_rfl) (by kernel_rfl) (by kernel_rfl) rfl (D.r (Config.d sampleC)) (fun _ => PC.more (drumlinelaw7_sample_pc)) ?_
  refine PL.gcall (A := [(21, true)]) (f := 16) (ds := [D.r (Config.d sampleC)]) (by kernel_rfl) (by kernel_rfl) (by kernel_rfl) (by kernel_rfl) (by kernel_rfl) rfl (I (stepR sampleC)) (fun _ => bounds_Step_pc e hA sampleC (by decide) (by decide)) ?_
  refine PL.rowK 11 [0] 0 (s' := { tab := [⟨0, [], D.v (.bool (((((((edgeR sampleC) == (5 : Int)) && ((2 * edgeR sampleC) == (10 : Int))) && ((slewR sampleC) == (2 : Int))) && ((stepR sampleC) == (26 : Int))) && (((fitsP sampleC).1) == (0 : Int))) && (((fitsP sampleC).2) == (0 : Int))))⟩], mem := [], gl := (errG3 e) }) (p := True) (by kernel_rfl) (by trivial) ?_
  refine PL.nil ?_
  show PW _ _ _ _ _
  refine PW.ret ?_
  refine retQ_ret (d := D.v (.bool (((((((edgeR sampleC) == (5 : Int)) && ((2 * edgeR sampleC) == (10 : Int))) && ((slewR sampleC) == (2 : Int))) && ((stepR sampleC) == (26 : Int))) && (((fitsP sampleC).1) == (0 : Int))) && (((fitsP sampleC).2) == (0 : Int))))) (ps := []) (by kernel_rfl) trivial ?_
  rw [sa1, sa2, sa3, sa4]
  rfl
end Go.Proofs.YthoddfmlemihgaaGreatDoor.Pl
