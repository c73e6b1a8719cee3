/- Chapter 7: the document's own Fits, Fit, First; the law's example. -/
import Derived.Test.YthoddfmlemihgaaGreatDoorBdFive
import Derived.Test.YthoddfmlemihgaaGreatDoorDpDiv
namespace Go.Proofs.YthoddfmlemihgaaGreatDoor.Pl
open Go.RowKit Go.Proofs.YthoddfmlemihgaaGreatDoor.Sm Go.Proofs.YthoddfmlemihgaaGreatDoor.Dp
set_option maxHeartbeats 4000000
set_option maxRecDepth 100000
set_option linter.unusedVariables false
set_option linter.unusedSimpArgs false
def sampleC : Config := ⟨[⟨4, 1⟩], [], 20000, 60, 100, 15, 100, 100000, 2, 0, 3, 3, 3⟩
theorem sample_pc0  : PC Tryz.prog [] 31 [] (· = D.r ((Config.d sampleC).set 1 (D.v (.slice none 0 0)))) := by
  refine PC.of (N := 4) Tryz.func31 rfl rfl (Nat.le_of_ble_eq_true rfl) ?_
  refine PW.seq ?_
  refine PW.region ?_
  refine PL.rowK 1 [0] 1 (s' := { tab := [⟨0, [], D.p 0 0 0 0⟩], mem := [Obj.var 25 [D.v (.slice none 0 0), D.v (.slice none 0 0), I 0, I 0, I 0, I 0, I 0, I 0, I 0, I 0, I 0, I 0, I 0]] }) (p := True) (by kernel_rfl) (by trivial) ?_
  refine PL.nil ?_
  show PW _ _ _ _ _
  refine PW.seq ?_
  refine PW.region ?_
  refine PL.rowK 2 [0, 2] 2 (s' := { tab := [⟨0, [], D.p 0 0 0 0⟩, ⟨2, [], D.h 1 1⟩], mem := [Obj.var 25 [D.v (.slice none 0 0), D.v (.slice none 0 0), I 0, I 0, I 0, I 0, I 0, I 0, I 0, I 0, I 0, I 0, I 0], Obj.row 57 2 1 (fun k => ([[I 4, I 1]][k]?).getD [])] }) (p := True) (by kernel_rfl) (by trivial) ?_
  refine PL.row 0 [0, 2] 2 (s' := { tab := [⟨0, [], D.p 0 0 0 0⟩, ⟨2, [], D.h 1 1⟩], mem := [Obj.var 25 [D.v (.slice none 0 0), D.v (.slice none 0 0), I 0, I 0, I 0, I 0, I 0, I 0, I 0, I 0, I 0, I 0, I 0], Obj.row 57 2 1 (fun k => ([[I 4, I 1]][k]?).getD [])] }) (p := True) (by kernel_rfl) (by kernel_rfl) (by kernel_rfl) (by kernel_rfl) (by kernel_rfl) trivial ?_
  refine PL.frzR 1 (t := 57) (z := 2) (m := 1) (f := (fun k => ([[I 4, I 1]][k]?).getD [])) (f' := (fun i => Part.d (([(⟨4, 1⟩ : Part)]).getD i default))) (s' := { tab := [⟨0, [], D.p 0 0 0 0⟩, ⟨2, [], sl' 2 Part.d ([(⟨4, 1⟩ : Part)])⟩], mem := [Obj.var 25 [D.v (.slice none 0 0), D.v (.slice none 0 0), I 0, I 0, I 0, I 0, I 0, I 0, I 0, I 0, I 0, I 0, I 0], Obj.dead] }) rfl (fun j hj => match j, hj with | 0, _ => rfl | j + 1, hj => absurd hj (by omega)) (Nat.zero_le _) (by kernel_rfl) ?_
  refine PL.build (cs := [sl' 2 Part.d ([(⟨4, 1⟩ : Part)]), D.v (.slice none 0 0), I 20000, I 60, I 100, I 15, I 100, I 100000, I 2, I 0, I 3, I 3, I 3]) rfl (by kernel_rfl) (by kernel_rfl) (by kernel_rfl) ?_
  refine PL.rowK 1 [0] 2 (s' := { tab := [⟨0, [], D.p 0 0 0 0⟩], mem := [Obj.var 25 [sl' 2 Part.d ([(⟨4, 1⟩ : Part)]), D.v (.slice none 0 0), I 20000, I 60, I 100, I 15, I 100, I 100000, I 2, I 0, I 3, I 3, I 3], Obj.dead] }) (p := True) (by kernel_rfl) (by trivial) ?_
  refine PL.nil ?_
  show PW _ _ _ _ _
  refine PW.ret ?_
  refine retQ_ret (d := D.r [sl' 2 Part.d ([(⟨4, 1⟩ : Part)]), D.v (.slice none 0 0), I 20000, I 60, I 100, I 15, I 100, I 100000, I 2, I 0, I 3, I 3, I 3]) (ps := []) (by kernel_rfl) trivial ?_
  rfl
theorem drumlinelaw7_sample_pc : PC Tryz.prog [] 31 [] (· = D.r (Config.d sampleC)) := PC.renil 1 6 (fun i => Link.d (([] : List Link).getD i default)) sample_pc0 rfl
end Go.Proofs.YthoddfmlemihgaaGreatDoor.Pl
