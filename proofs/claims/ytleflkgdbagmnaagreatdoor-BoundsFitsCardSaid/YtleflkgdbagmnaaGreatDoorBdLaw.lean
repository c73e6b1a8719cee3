/- Chapter 7's laws: alive, BoundsFits, BoundsTells. -/
import Derived.Test.YtleflkgdbagmnaaGreatDoorBdSix
namespace Go.Proofs.YtleflkgdbagmnaaGreatDoor.Pl
open Go.RowKit Go.Proofs.YtleflkgdbagmnaaGreatDoor.Sm Go.Proofs.YtleflkgdbagmnaaGreatDoor.Dp
set_option maxHeartbeats 4000000
set_option maxRecDepth 100000
set_option linter.unusedVariables false
set_option linter.unusedSimpArgs false
theorem sa1 : edgeR sampleC = 5 := by kernel_rfl
theorem sa2 : slewR sampleC = 2 := by kernel_rfl
theorem sa3 : stepR sampleC = 26 := by kernel_rfl
theorem sa4 : fitsP sampleC = (0, 0) := by kernel_rfl
theorem drumlinelaw7_alive_pc (e : Nat → Addr) (hA : Apart e) : PC Tryz.prog (errG3 e) 6 [] (· = D.v (.bool true)) := by
  refine PC.of (N := 34) Tryz.func6 rfl rfl (Nat.le_of_ble_eq_true rfl) ?_
  refine PW.seq ?_
  refine PW.region ?_
  refine PL.rowK 1 [] 0 (s' := { tab := [], mem := [], gl := (errG3 e) }) (p := True) (by kernel_rfl) (by trivial) ?_
  refine PL.nil ?_
  show PW _ _ _ _ _
  refine PW.seq ?_
  refine PW.region ?_
  refine PL.gcall (A := []) (f := 28) (ds := []) (by kernel_rfl) (by kernel_rfl) (by kernel_rfl) (by kernel_rfl) (by kernel_rfl) rfl (D.r (Config.d sampleC)) (fun _ => PC.more (drumlinelaw7_sample_pc)) ?_
  refine PL.gcall (A := []) (f := 23) (ds := [D.r (Config.d sampleC)]) (by kernel_rfl) (by kernel_rfl) (by kernel_rfl) (by kernel_rfl) (by kernel_rfl) rfl (D.t [I ((fitsP sampleC).1), I ((fitsP sampleC).2)]) (fun _ => bounds_Fits_pc e hA sampleC (by decide) (by decide)) ?_
  refine PL.rowK 5 [1, 2] 0 (s' := { tab := [⟨1, [], I ((fitsP sampleC).1)⟩, ⟨2, [], I ((fitsP sampleC).2)⟩], mem := [], gl := (errG3 e) }) (p := True) (by kernel_rfl) (by trivial) ?_
  refine PL.nil ?_
  show PW _ _ _ _ _
  refine PW.seq ?_
  refine PW.region ?_
  refine PL.gcall (A := []) (f := 28) (ds := []) (by kernel_rfl) (by kernel_rfl) (by kernel_rfl) (by kernel_rfl) (by kernel_rfl) rfl (D.r (Config.d sampleC)) (fun _ => PC.more (drumlinelaw7_sample_pc)) ?_
  refine PL.gcall (A := []) (f := 7) (ds := [D.r (Config.d sampleC)]) (by kernel_rfl) (by kernel_rfl) (by kernel_rfl) (by kernel_rfl) (by kernel_rfl) rfl (I (edgeR sampleC)) (fun _ => bounds_Edge_pc e hA sampleC (by decide) (by decide)) ?_
  refine PL.rowK 2 [1, 2, 11] 0 (s' := { tab := [⟨1, [], I ((fitsP sampleC).1)⟩, ⟨2, [], I ((fitsP sampleC).2)⟩, ⟨11, [], D.v (.bool ((edgeR sampleC) == (5 : Int)))⟩], mem := [], gl := (errG3 e) }) (p := True) (by kernel_rfl) (by trivial) ?_
  refine PL.gcall (A := [(11, true)]) (f := 28) (ds := []) (by kernel_rfl) (by kernel_rfl) (by kernel_rfl) (by kernel_rfl) (by kernel_rfl) rfl (D.r (Config.d sampleC)) (fun _ => PC.more (drumlinelaw7_sample_pc)) ?_
  refine PL.gcall (A := [(11, true)]) (f := 9) (ds := [D.r (Config.d sampleC)]) (by kernel_rfl) (by kernel_rfl) (by kernel_rfl) (by kernel_rfl) (by kernel_rfl) rfl (I (2 * edgeR sampleC)) (fun _ => bounds_Near_pc e hA sampleC (by decide) (by decide)) ?_
  refine PL.rowK 3 [1, 2, 16] 0 (s' := { tab := [⟨1, [], I ((fitsP sampleC).1)⟩, ⟨2, [], I ((fitsP sampleC).2)⟩, ⟨16, [], D.v (.bool (((edgeR sampleC) == (5 : Int)) && ((2 * edgeR sampleC) == (10 : Int))))⟩], mem := [], gl := (errG3 e) }) (p := True) (by kernel_rfl) (by trivial) ?_
  refine PL.gcall (A := [(16, true)]) (f := 28) (ds := []) (by kernel_rfl) (by kernel_rfl) (by kernel_rfl) (by kernel_rfl) (by kernel_rfl) rfl (D.r (Config.d sampleC)) (fun _ => PC.more (drumlinelaw7_sample_pc)) ?_
  refine PL.gcall (A := [(16, true)]) (f := 11) (ds := [D.r (Config.d sampleC)]) (by kernel_rfl) (by kernel_rfl) (by kernel_rfl) (by kernel_rfl) (by kernel_rfl) rfl (I (slewR sampleC)) (fun _ => bounds_Slew_pc e hA sampleC (by decide) (by decide)) ?_
  refine PL.rowK 3 [1, 2, 21] 0 (s' := { tab := [⟨1, [], I ((fitsP sampleC).1)⟩, ⟨2, [], I ((fitsP sampleC).2)⟩, ⟨21, [], D.v (.bool ((((edgeR sampleC) == (5 : Int)) && ((2 * edgeR sampleC) == (10 : Int))) && ((slewR sampleC) == (2 : Int))))⟩], mem := [], gl := (errG3 e) }) (p := True) (by kernel_rfl) (by trivial) ?_
  refine PL.gcall (A := [(21, true)]) (f := 28) (ds := []) (by kernel_rfl) (by kernel_rfl) (by kernel_rfl) (by kernel_rfl) (by kernel_rfl) rfl (D.r (Config.d sampleC)) (fun _ => PC.more (drumlinelaw7_sample_pc)) ?_
  refine PL.gcall (A := [(21, true)]) (f := 13) (ds := [D.r (Config.d sampleC)]) (by kernel_rfl) (by kernel_rfl) (by kernel_rfl) (by kernel_rfl) (by kernel_rfl) rfl (I (stepR sampleC)) (fun _ => bounds_Step_pc e hA sampleC (by decide) (by decide)) ?_
  refine PL.rowK 11 [0] 0 (s' := { tab := [⟨0, [], D.v (.bool (((((((edgeR sampleC) == (5 : Int)) && ((2 * edgeR sampleC) == (10 : Int))) && ((slewR sampleC) == (2 : Int))) && ((stepR sampleC) == (26 : Int))) && (((fitsP sampleC).1) == (0 : Int))) && (((fitsP sampleC).2) == (0 : Int))))⟩], mem := [], gl := (errG3 e) }) (p := True) (by kernel_rfl) (by trivial) ?_
  refine PL.nil ?_
  show PW _ _ _ _ _
  refine PW.ret ?_
  refine retQ_ret (d := D.v (.bool (((((((edgeR sampleC) == (5 : Int)) && ((2 * edgeR sampleC) == (10 : Int))) && ((slewR sampleC) == (2 : Int))) && ((stepR sampleC) == (26 : Int))) && (((fitsP sampleC).1) == (0 : Int))) && (((fitsP sampleC).2) == (0 : Int))))) (ps := []) (by kernel_rfl) trivial ?_
  rw [sa1, sa2, sa3, sa4]
  rfl
theorem drumlinelaw7_BoundsFits_pc (e : Nat → Addr) (hA : Apart e) (c : Config) : PC Tryz.prog (errG3 e) 4 [D.r (Config.d c)] (· = D.v (.bool true)) := by
  refine PC.of (N := 41) Tryz.func4 rfl rfl (Nat.le_of_ble_eq_true rfl) ?_
  refine PW.seq ?_
  refine PW.region ?_
  refine PL.rowK 2 [1] 1 (s' := { tab := [⟨1, [], D.p 0 0 0 0⟩], mem := [Obj.var 25 (Config.d c)], gl := (errG3 e) }) (p := True) (by kernel_rfl) (by trivial) ?_
  refine PL.nil ?_
  show PW _ _ _ _ _
  refine PW.seq ?_
  refine PW.seq ?_
  refine PW.region ?_
  refine PL.gcall (A := []) (f := 6) (ds := []) (by kernel_rfl) (by kernel_rfl) (by kernel_rfl) (by kernel_rfl) (by kernel_rfl) rfl (D.v (.bool true)) (fun _ => drumlinelaw7_alive_pc e hA) ?_
  refine PL.rowK 13 [1, 20] 1 (s' := { tab := [⟨1, [], D.p 0 0 0 0⟩, ⟨20, [], D.v (.bool ((false || (decide ((c.parts.length : Int) > (20 : Int)))) || (decide ((c.links.length : Int) > (30 : Int)))))⟩], mem := [Obj.var 25 (Config.d c)], gl := (errG3 e) }) (p := True) (by kernel_rfl) (by trivial) ?_
  refine PL.nil ?_
  show PW _ _ _ _ _
  refine PW.cond (z := ((false || (decide ((c.parts.length : Int) > (20 : Int)))) || (decide ((c.links.length : Int) > (30 : Int))))) (by kernel_rfl) (fun hz0 => ?_) (fun hz0 => ?_)
  · skip
    try simp only [boolS, isB_true, isB_false, Bool.false_or, false_or, Classical.not_not] at hz0
    refine PW.seq ?_
    refine PW.region ?_
    refine PL.gcall (A := []) (f := 6) (ds := []) (by kernel_rfl) (by kernel_rfl) (by kernel_rfl) (by kernel_rfl) (by kernel_rfl) rfl (D.v (.bool true)) (fun _ => drumlinelaw7_alive_pc e hA) ?_
    refine PL.rowK 1 [2] 1 (s' := { tab := [⟨2, [], D.v (.bool true)⟩], mem := [Obj.var 25 (Config.d c)], gl := (errG3 e) }) (p := True) (by kernel_rfl) (by trivial) ?_
    refine PL.nil ?_
    show PW _ _ _ _ _
    refine PW.ret ?_
    refine retQ_ret (d := D.v (.bool true)) (ps := []) (by kernel_rfl) trivial ?_
    rfl
  · skip
    try simp only [boolS, isB_true, isB_false, Bool.false_or, false_or, Classical.not_not] at hz0
    refine PW.skip ?_
    show PW _ _ _ _ _
    refine PW.seq ?_
    refine PW.region ?_
    refine PL.rowK 1 [1, 23] 1 (s' := { tab := [⟨1, [], D.p 0 0 0 0⟩, ⟨23, [], D.r (Config.d c)⟩], mem := [Obj.var 25 (Config.d c)], gl := (errG3 e) }) (p := True) (by kernel_rfl) (by trivial) ?_
    refine PL.gcall (A := []) (f := 23) (ds := [D.r (Config.d c)]) (by kernel_rfl) (by kernel_rfl) (by kernel_rfl) (by kernel_rfl) (by kernel_rfl) rfl (D.t [I ((fitsP c).1), I ((fitsP c).2)]) (fun _ => bounds_Fits_pc e hA c (by omega) (by omega)) ?_
    refine PL.rowK 5 [1, 3, 4] 1 (s' := { tab := [⟨1, [], D.p 0 0 0 0⟩, ⟨3, [], I ((fitsP c).1)⟩, ⟨4, [], I ((fitsP c).2)⟩], mem := [Obj.var 25 (Config.d c)], gl := (errG3 e) }) (p := True) (by kernel_rfl) (by trivial) ?_
    refine PL.nil ?_
    show PW _ _ _ _ _
    refine PW.seq ?_
    refine PW.region ?_
    refine PL.rowK 1 [3, 4, 28] 1 (s' := { tab := [⟨3, [], I ((fitsP c).1)⟩, ⟨4, [], I ((fitsP c).2)⟩, ⟨28, [], D.r (Config.d c)⟩], mem := [Obj.var 25 (Config.d c)], gl := (errG3 e) }) (p := True) (by kernel_rfl) (by trivial) ?_
    refine PL.gcall (A := []) (f := 24) (ds := [D.r (Config.d c)]) (by kernel_rfl) (by kernel_rfl) (by kernel_rfl) (by kernel_rfl) (by kernel_rfl) rfl (D.t [I ((fitsP c).1), I ((fitsP c).2)]) (fun _ => PC.more (drumlineref5_Fits_pc c (by omega) (by omega))) ?_
    refine PL.rowK 5 [3, 4, 5, 6] 1 (s' := { tab := [⟨3, [], I ((fitsP c).1)⟩, ⟨4, [], I ((fitsP c).2)⟩, ⟨5, [], I ((fitsP c).1)⟩, ⟨6, [], I ((fitsP c).2)⟩], mem := [Obj.var 25 (Config.d c)], gl := (errG3 e) }) (p := True) (by kernel_rfl) (by trivial) ?_
    refine PL.nil ?_
    show PW _ _ _ _ _
    refine PW.seq ?_
    refine PW.region ?_
    refine PL.rowK 1 [4, 5, 6, 32] 1 (s' := { tab := [⟨4, [], I ((fitsP c).2)⟩, ⟨5, [], I ((fitsP c).1)⟩, ⟨6, [], I ((fitsP c).2)⟩, ⟨32, [], I ((fitsP c).1)⟩], mem := [Obj.var 25 (Config.d c)], gl := (errG3 e) }) (p := True) (by kernel_rfl) (by trivial) ?_
    refine PL.gcall (A := []) (f := 25) (ds := [I ((fitsP c).1)]) (by kernel_rfl) (by kernel_rfl) (by kernel_rfl) (by kernel_rfl) (by kernel_rfl) rfl (I ((fitsP c).1)) (fun _ => PC.more (drumlinelaw7_num_pc ((fitsP c).1))) ?_
    refine PL.rowK 8 [2] 1 (s' := { tab := [⟨2, [], D.v (.bool ((((fitsP c).1) == ((fitsP c).1)) && (((fitsP c).2) == ((fitsP c).2))))⟩], mem := [Obj.var 25 (Config.d c)], gl := (errG3 e) }) (p := True) (by kernel_rfl) (by trivial) ?_
    refine PL.nil ?_
    show PW _ _ _ _ _
    refine PW.ret ?_
    refine retQ_ret (d := D.v (.bool ((((fitsP c).1) == ((fitsP c).1)) && (((fitsP c).2) == ((fitsP c).2))))) (ps := []) (by kernel_rfl) trivial ?_
    simp
theorem drumlinelaw7_BoundsTells_pc (e : Nat → Addr) (hA : Apart e) (c : Config) (part : Int) : PC Tryz.prog (errG3 e) 3 [D.r (Config.d c), I part] (· = D.v (.bool true)) := by
  refine PC.of (N := 76) Tryz.func3 rfl rfl (Nat.le_of_ble_eq_true rfl) ?_
  refine PW.seq ?_
  refine PW.region ?_
  refine PL.rowK 2 [1, 2] 1 (s' := { tab := [⟨1, [], I part⟩, ⟨2, [], D.p 0 0 0 0⟩], mem := [Obj.var 25 (Config.d c)], gl := (errG3 e) }) (p := True) (by kernel_rfl) (by trivial) ?_
  refine PL.nil ?_
  show PW _ _ _ _ _
  refine PW.seq ?_
  refine PW.seq ?_
  refine PW.region ?_
  refine PL.gcall (A := []) (f := 6) (ds := []) (by kernel_rfl) (by kernel_rfl) (by kernel_rfl) (by kernel_rfl) (by kernel_rfl) rfl (D.v (.bool true)) (fun _ => drumlinelaw7_alive_pc e hA) ?_
  refine PL.rowK 13 [1, 2, 18] 1 (s' := { tab := [⟨1, [], I part⟩, ⟨2, [], D.p 0 0 0 0⟩, ⟨18, [], D.v (.bool ((false || (decide ((c.parts.length : Int) > (20 : Int)))) || (decide ((c.links.length : Int) > (30 : Int)))))⟩], mem := [Obj.var 25 (Config.d c)], gl := (errG3 e) }) (p := True) (by kernel_rfl) (by trivial) ?_
  refine PL.nil ?_
  show PW _ _ _ _ _
  refine PW.cond (z := ((false || (decide ((c.parts.length : Int) > (20 : Int)))) || (decide ((c.links.length : Int) > (30 : Int))))) (by kernel_rfl) (fun hz0 => ?_) (fun hz0 => ?_)
  · skip
    try simp only [boolS, isB_true, isB_false, Bool.false_or, false_or, Classical.not_not] at hz0
    refine PW.seq ?_
    refine PW.region ?_
    refine PL.gcall (A := []) (f := 6) (ds := []) (by kernel_rfl) (by kernel_rfl) (by kernel_rfl) (by kernel_rfl) (by kernel_rfl) rfl (D.v (.bool true)) (fun _ => drumlinelaw7_alive_pc e hA) ?_
    refine PL.rowK 1 [4] 1 (s' := { tab := [⟨4, [], D.v (.bool true)⟩], mem := [Obj.var 25 (Config.d c)], gl := (errG3 e) }) (p := True) (by kernel_rfl) (by trivial) ?_
    refine PL.nil ?_
    show PW _ _ _ _ _
    refine PW.ret ?_
    refine retQ_ret (d := D.v (.bool true)) (ps := []) (by kernel_rfl) trivial ?_
    rfl
  · skip
    try simp only [boolS, isB_true, isB_false, Bool.false_or, false_or, Classical.not_not] at hz0
    refine PW.skip ?_
    show PW _ _ _ _ _
    refine PW.seq ?_
    refine PW.open [] (by kernel_rfl) ?_
    refine PO.takes [0, 2] 57 [1, 2, 20, 22] 1 (n := 55) (s' := { tab := [⟨1, [], I part⟩, ⟨2, [], D.p 0 0 0 0⟩, ⟨20, [], D.r (Config.d c)⟩, ⟨22, [], D.r (Config.d c)⟩], mem := [Obj.var 25 (Config.d c)], gl := (errG3 e) }) (p := True) (by kernel_rfl) (fun _ _ h => h) (by kernel_rfl) (by kernel_rfl) (by kernel_rfl) (by kernel_rfl) (by kernel_rfl) (by kernel_rfl) (by kernel_rfl) (by kernel_rfl) (by trivial) ?_
    refine PO.one (n := 54) 1 (by kernel_rfl) ?_
    refine PO1.gcall (A := []) (f := 7) (ds := [D.r (Config.d c)]) rfl (by kernel_rfl) (by kernel_rfl) (by kernel_rfl) (by kernel_rfl) (by kernel_rfl) rfl (I (edgeR c)) (fun _ => bounds_Edge_pc e hA c (by omega) (by omega)) ?_
    refine PO.one (n := 53) 3 (by kernel_rfl) ?_
    refine PO1.gcall (A := []) (f := 8) (ds := [D.r (Config.d c)]) rfl (by kernel_rfl) (by kernel_rfl) (by kernel_rfl) (by kernel_rfl) (by kernel_rfl) rfl (I (edgeR c)) (fun _ => PC.more (drumlineref5_Edge_pc c (by omega) (by omega))) ?_
    refine PO.takes [4, 5, 6, 8] 53 [1, 2, 25, 26, 28] 1 (n := 49) (s' := { tab := [⟨1, [], I part⟩, ⟨2, [], D.p 0 0 0 0⟩, ⟨25, [], D.v (.bool ((edgeR c) == (edgeR c)))⟩, ⟨26, [(25, true)], D.r (Config.d c)⟩, ⟨28, [(25, true)], D.r (Config.d c)⟩], mem := [Obj.var 25 (Config.d c)], gl := (errG3 e) }) (p := True) (by kernel_rfl) (fun _ _ h => h) (by kernel_rfl) (by kernel_rfl) (by kernel_rfl) (by kernel_rfl) (by kernel_rfl) (by kernel_rfl) (by kernel_rfl) (by kernel_rfl) (by trivial) ?_
    refine PO.one (n := 48) 7 (by kernel_rfl) ?_
    refine PO1.gcall (A := [(25, true)]) (f := 9) (ds := [D.r (Config.d c)]) rfl (by kernel_rfl) (by kernel_rfl) (by kernel_rfl) (by kernel_rfl) (by kernel_rfl) rfl (I (2 * edgeR c)) (fun _ => bounds_Near_pc e hA c (by omega) (by omega)) ?_
    refine PO.one (n := 47) 9 (by kernel_rfl) ?_
    refine PO1.gcall (A := [(25, true)]) (f := 10) (ds := [D.r (Config.d c)]) rfl (by kernel_rfl) (by kernel_rfl) (by kernel_rfl) (by kernel_rfl) (by kernel_rfl) rfl (I (2 * edgeR c)) (fun _ => PC.more (drumlineref5_Near_pc c (by omega) (by omega))) ?_
    refine PO.takes [10, 11, 12, 13, 15] 47 [1, 2, 32, 33, 35] 1 (n := 42) (s' := { tab := [⟨1, [], I part⟩, ⟨2, [], D.p 0 0 0 0⟩, ⟨32, [], D.v (.bool (((edgeR c) == (edgeR c)) && ((2 * edgeR c) == (2 * edgeR c))))⟩, ⟨33, [(32, true)], D.r (Config.d c)⟩, ⟨35, [(32, true)], D.r (Config.d c)⟩], mem := [Obj.var 25 (Config.d c)], gl := (errG3 e) }) (p := True) (by kernel_rfl) (fun _ _ h => h) (by kernel_rfl) (by kernel_rfl) (by kernel_rfl) (by kernel_rfl) (by kernel_rfl) (by kernel_rfl) (by kernel_rfl) (by kernel_rfl) (by trivial) ?_
    refine PO.one (n := 41) 14 (by kernel_rfl) ?_
    refine PO1.gcall (A := [(32, true)]) (f := 11) (ds := [D.r (Config.d c)]) rfl (by kernel_rfl) (by kernel_rfl) (by kernel_rfl) (by kernel_rfl) (by kernel_rfl) rfl (I (slewR c)) (fun _ => bounds_Slew_pc e hA c (by omega) (by omega)) ?_
    refine PO.one (n := 40) 16 (by kernel_rfl) ?_
    refine PO1.gcall (A := [(32, true)]) (f := 12) (ds := [D.r (Config.d c)]) rfl (by kernel_rfl) (by kernel_rfl) (by kernel_rfl) (by kernel_rfl) (by kernel_rfl) rfl (I (slewR c)) (fun _ => PC.more (drumlineref5_Slew_pc c (by omega) (by omega))) ?_
    refine PO.takes [17, 18, 19, 20, 22] 40 [1, 2, 39, 40, 42] 1 (n := 35) (s' := { tab := [⟨1, [], I part⟩, ⟨2, [], D.p 0 0 0 0⟩, ⟨39, [], D.v (.bool ((((edgeR c) == (edgeR c)) && ((2 * edgeR c) == (2 * edgeR c))) && ((slewR c) == (slewR c))))⟩, ⟨40, [(39, true)], D.r (Config.d c)⟩, ⟨42, [(39, true)], D.r (Config.d c)⟩], mem := [Obj.var 25 (Config.d c)], gl := (errG3 e) }) (p := True) (by kernel_rfl) (fun _ _ h => h) (by kernel_rfl) (by kernel_rfl) (by kernel_rfl) (by kernel_rfl) (by kernel_rfl) (by kernel_rfl) (by kernel_rfl) (by kernel_rfl) (by trivial) ?_
    refine PO.one (n := 34) 21 (by kernel_rfl) ?_
    refine PO1.gcall (A := [(39, true)]) (f := 13) (ds := [D.r (Config.d c)]) rfl (by kernel_rfl) (by kernel_rfl) (by kernel_rfl) (by kernel_rfl) (by kernel_rfl) rfl (I (stepR c)) (fun _ => bounds_Step_pc e hA c (by omega) (by omega)) ?_
    refine PO.one (n := 33) 23 (by kernel_rfl) ?_
    refine PO1.gcall (A := [(39, true)]) (f := 14) (ds := [D.r (Config.d c)]) rfl (by kernel_rfl) (by kernel_rfl) (by kernel_rfl) (by kernel_rfl) (by kernel_rfl) rfl (I (stepR c)) (fun _ => PC.more (drumlineref5_Step_pc c (by omega) (by omega))) ?_
    refine PO.takes [24, 25, 26, 27, 29] 33 [1, 2, 46, 47, 49] 1 (n := 28) (s' := { tab := [⟨1, [], I part⟩, ⟨2, [], D.p 0 0 0 0⟩, ⟨46, [], D.v (.bool (((((edgeR c) == (edgeR c)) && ((2 * edgeR c) == (2 * edgeR c))) && ((slewR c) == (slewR c))) && ((stepR c) == (stepR c))))⟩, ⟨47, [(46, true)], D.r (Config.d c)⟩, ⟨49, [(46, true)], D.r (Config.d c)⟩], mem := [Obj.var 25 (Config.d c)], gl := (errG3 e) }) (p := True) (by kernel_rfl) (fun _ _ h => h) (by kernel_rfl) (by kernel_rfl) (by kernel_rfl) (by kernel_rfl) (by kernel_rfl) (by kernel_rfl) (by kernel_rfl) (by kernel_rfl) (by trivial) ?_
    refine PO.one (n := 27) 28 (by kernel_rfl) ?_
    refine PO1.gcall (A := [(46, true)]) (f := 15) (ds := [D.r (Config.d c)]) rfl (by kernel_rfl) (by kernel_rfl) (by kernel_rfl) (by kernel_rfl) (by kernel_rfl) rfl (I (jumpR c)) (fun _ => bounds_Jump_pc e hA c (by omega) (by omega)) ?_
    refine PO.one (n := 26) 30 (by kernel_rfl) ?_
    refine PO1.gcall (A := [(46, true)]) (f := 16) (ds := [D.r (Config.d c)]) rfl (by kernel_rfl) (by kernel_rfl) (by kernel_rfl) (by kernel_rfl) (by kernel_rfl) rfl (I (jumpR c)) (fun _ => PC.more (drumlineref5_Jump_pc c (by omega) (by omega))) ?_
    refine PO.takes [31, 32, 33, 34, 36] 26 [1, 2, 53, 54, 56] 1 (n := 21) (s' := { tab := [⟨1, [], I part⟩, ⟨2, [], D.p 0 0 0 0⟩, ⟨53, [], D.v (.bool ((((((edgeR c) == (edgeR c)) && ((2 * edgeR c) == (2 * edgeR c))) && ((slewR c) == (slewR c))) && ((stepR c) == (stepR c))) && ((jumpR c) == (jumpR c))))⟩, ⟨54, [(53, true)], D.r (Config.d c)⟩, ⟨56, [(53, true)], D.r (Config.d c)⟩], mem := [Obj.var 25 (Config.d c)], gl := (errG3 e) }) (p := True) (by kernel_rfl) (fun _ _ h => h) (by kernel_rfl) (by kernel_rfl) (by kernel_rfl) (by kernel_rfl) (by kernel_rfl) (by kernel_rfl) (by kernel_rfl) (by kernel_rfl) (by trivial) ?_
    refine PO.one (n := 20) 35 (by kernel_rfl) ?_
    refine PO1.gcall (A := [(53, true)]) (f := 17) (ds := [D.r (Config.d c)]) rfl (by kernel_rfl) (by kernel_rfl) (by kernel_rfl) (by kernel_rfl) (by kernel_rfl) rfl (I (tickR c)) (fun _ => bounds_Tick_pc e hA c (by omega) (by omega)) ?_
    refine PO.one (n := 19) 37 (by kernel_rfl) ?_
    refine PO1.gcall (A := [(53, true)]) (f := 18) (ds := [D.r (Config.d c)]) rfl (by kernel_rfl) (by kernel_rfl) (by kernel_rfl) (by kernel_rfl) (by kernel_rfl) rfl (I (tickR c)) (fun _ => PC.more (drumlineref5_Tick_pc c (by omega) (by omega))) ?_
    refine PO.takes [38, 39, 40, 41, 43] 19 [1, 2, 60, 61, 63] 1 (n := 14) (s' := { tab := [⟨1, [], I part⟩, ⟨2, [], D.p 0 0 0 0⟩, ⟨60, [], D.v (.bool (((((((edgeR c) == (edgeR c)) && ((2 * edgeR c) == (2 * edgeR c))) && ((slewR c) == (slewR c))) && ((stepR c) == (stepR c))) && ((jumpR c) == (jumpR c))) && ((tickR c) == (tickR c))))⟩, ⟨61, [(60, true)], D.r (Config.d c)⟩, ⟨63, [(60, true)], D.r (Config.d c)⟩], mem := [Obj.var 25 (Config.d c)], gl := (errG3 e) }) (p := True) (by kernel_rfl) (fun _ _ h => h) (by kernel_rfl) (by kernel_rfl) (by kernel_rfl) (by kernel_rfl) (by kernel_rfl) (by kernel_rfl) (by kernel_rfl) (by kernel_rfl) (by trivial) ?_
    refine PO.one (n := 13) 42 (by kernel_rfl) ?_
    refine PO1.gcall (A := [(60, true)]) (f := 19) (ds := [D.r (Config.d c)]) rfl (by kernel_rfl) (by kernel_rfl) (by kernel_rfl) (by kernel_rfl) (by kernel_rfl) rfl (I (goneR c)) (fun _ => bounds_Gone_pc e hA c (by omega) (by omega)) ?_
    refine PO.one (n := 12) 44 (by kernel_rfl) ?_
    refine PO1.gcall (A := [(60, true)]) (f := 20) (ds := [D.r (Config.d c)]) rfl (by kernel_rfl) (by kernel_rfl) (by kernel_rfl) (by kernel_rfl) (by kernel_rfl) rfl (I (goneR c)) (fun _ => PC.more (drumlineref5_Gone_pc c (by omega) (by omega))) ?_
    refine PO.takes [45, 46, 47, 48, 49, 51, 52] 12 [67, 68, 69, 71, 72] 1 (n := 5) (s' := { tab := [⟨67, [], D.v (.bool ((((((((edgeR c) == (edgeR c)) && ((2 * edgeR c) == (2 * edgeR c))) && ((slewR c) == (slewR c))) && ((stepR c) == (stepR c))) && ((jumpR c) == (jumpR c))) && ((tickR c) == (tickR c))) && ((goneR c) == (goneR c))))⟩, ⟨68, [(67, true)], D.r (Config.d c)⟩, ⟨69, [(67, true)], I part⟩, ⟨71, [(67, true)], D.r (Config.d c)⟩, ⟨72, [(67, true)], I part⟩], mem := [Obj.var 25 (Config.d c)], gl := (errG3 e) }) (p := True) (by kernel_rfl) (fun _ _ h => h) (by kernel_rfl) (by kernel_rfl) (by kernel_rfl) (by kernel_rfl) (by kernel_rfl) (by kernel_rfl) (by kernel_rfl) (by kernel_rfl) (by trivial) ?_
    refine PO.one (n := 4) 50 (by kernel_rfl) ?_
    refine PO1.gcall (A := [(67, true)]) (f := 21) (ds := [D.r (Config.d c), I part]) rfl (by kernel_rfl) (by kernel_rfl) (by kernel_rfl) (by kernel_rfl) (by kernel_rfl) rfl (I (firstR c part)) (fun _ => bounds_First_pc e hA c (by omega) (by omega) part) ?_
    refine PO.one (n := 3) 53 (by kernel_rfl) ?_
    refine PO1.gcall (A := [(67, true)]) (f := 22) (ds := [D.r (Config.d c), I part]) rfl (by kernel_rfl) (by kernel_rfl) (by kernel_rfl) (by kernel_rfl) (by kernel_rfl) rfl (I (firstR c part)) (fun _ => PC.more (drumlineref5_First_pc c part (by omega) (by omega))) ?_
    refine PO.takes [54, 55, 56] 3 [4] 1 (n := 0) (s' := { tab := [⟨4, [], D.v (.bool (((((((((edgeR c) == (edgeR c)) && ((2 * edgeR c) == (2 * edgeR c))) && ((slewR c) == (slewR c))) && ((stepR c) == (stepR c))) && ((jumpR c) == (jumpR c))) && ((tickR c) == (tickR c))) && ((goneR c) == (goneR c))) && ((firstR c part) == (firstR c part))))⟩], mem := [Obj.var 25 (Config.d c)], gl := (errG3 e) }) (p := True) (by kernel_rfl) (fun _ _ h => h) (by kernel_rfl) (by kernel_rfl) (by kernel_rfl) (by kernel_rfl) (by kernel_rfl) (by kernel_rfl) (by kernel_rfl) (by kernel_rfl) (by trivial) ?_
    refine PO.done (by kernel_rfl) ?_
    show PW _ _ _ _ _
    refine PW.ret ?_
    refine retQ_ret (d := D.v (.bool (((((((((edgeR c) == (edgeR c)) && ((2 * edgeR c) == (2 * edgeR c))) && ((slewR c) == (slewR c))) && ((stepR c) == (stepR c))) && ((jumpR c) == (jumpR c))) && ((tickR c) == (tickR c))) && ((goneR c) == (goneR c))) && ((firstR c part) == (firstR c part))))) (ps := []) (by kernel_rfl) trivial ?_
    simp
end Go.Proofs.YtleflkgdbagmnaaGreatDoor.Pl
