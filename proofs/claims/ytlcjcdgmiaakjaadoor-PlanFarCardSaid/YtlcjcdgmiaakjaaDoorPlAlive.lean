/- Chapter 5's laws: alive. -/
import Derived.Test.YtlcjcdgmiaakjaaDoorPlFar
import Derived.Test.YtlcjcdgmiaakjaaDoorDpStr
namespace Go.Proofs.YtlcjcdgmiaakjaaDoor.Pl
open Go.RowKit Go.Proofs.YtlcjcdgmiaakjaaDoor.Sm Go.Proofs.YtlcjcdgmiaakjaaDoor.Dp
set_option maxHeartbeats 4000000
set_option maxRecDepth 100000
set_option linter.unusedVariables false
set_option linter.unusedSimpArgs false
def aliveC : Config := ⟨[⟨4, 1⟩, ⟨4, 1⟩], [⟨0, 1, 0, 1, 2, 3⟩], 0, 0, 0, 0, 0, 0, 0, 0, 0, 0, 0⟩
theorem alive_check : checkP aliveC = (0, 0) := by decide
theorem alive_far : farQ aliveC 0 1 = some (1, 3) := by decide
theorem alive_ports : (portsOf aliveC 0).length = 2 := by decide
theorem drumlinelaw5_alive_pc (e : Nat → Addr) (hA : Apart e) : PC Tryd.prog (errG2 e) 12 [] (· = D.v (.bool true)) := by
  refine PC.of (N := 49) Tryd.func12 rfl rfl (Nat.le_of_ble_eq_true rfl) ?_
  refine PW.seq ?_
  refine PW.region ?_
  refine PL.rowK 1 [] 0 (s' := { tab := [], mem := [], gl := (errG2 e) }) (p := True) (by kernel_rfl) (by trivial) ?_
  refine PL.nil ?_
  show PW _ _ _ _ _
  refine PW.seq ?_
  refine PW.region ?_
  refine PL.rowK 7 [9, 13] 2 (s' := { tab := [⟨9, [], D.h 0 2⟩, ⟨13, [], D.h 1 1⟩], mem := [Obj.row 50 2 2 (fun k => ([[I 4, I 1], [I 4, I 1]][k]?).getD []), Obj.row 48 6 1 (fun k => ([[I 0, I 1, I 0, I 1, I 2, I 3]][k]?).getD [])], gl := (errG2 e) }) (p := True) (by kernel_rfl) (by trivial) ?_
  refine PL.row 0 [9, 13] 2 (s' := { tab := [⟨9, [], D.h 0 2⟩, ⟨13, [], D.h 1 1⟩], mem := [Obj.row 50 2 2 (fun k => ([[I 4, I 1], [I 4, I 1]][k]?).getD []), Obj.row 48 6 1 (fun k => ([[I 0, I 1, I 0, I 1, I 2, I 3]][k]?).getD [])], gl := (errG2 e) }) (p := True) (by kernel_rfl) (by kernel_rfl) (by kernel_rfl) (by kernel_rfl) (by kernel_rfl) trivial ?_
  refine PL.frzR 0 (t := 50) (z := 2) (m := 2) (f := (fun k => ([[I 4, I 1], [I 4, I 1]][k]?).getD [])) (f' := (fun i => Part.d (([(⟨4, 1⟩ : Part), (⟨4, 1⟩ : Part)]).getD i default))) (s' := { tab := [⟨9, [], sl' 2 Part.d ([(⟨4, 1⟩ : Part), (⟨4, 1⟩ : Part)])⟩, ⟨13, [], D.h 1 1⟩], mem := [Obj.dead, Obj.row 48 6 1 (fun k => ([[I 0, I 1, I 0, I 1, I 2, I 3]][k]?).getD [])], gl := (errG2 e) }) rfl (fun j hj => match j, hj with | 0, _ => rfl | 1, _ => rfl | j + 2, hj => absurd hj (by omega)) (Nat.zero_le _) (by kernel_rfl) ?_
  refine PL.frzR 1 (t := 48) (z := 6) (m := 1) (f := (fun k => ([[I 0, I 1, I 0, I 1, I 2, I 3]][k]?).getD [])) (f' := (fun i => Link.d (([(⟨0, 1, 0, 1, 2, 3⟩ : Link)]).getD i default))) (s' := { tab := [⟨9, [], sl' 2 Part.d ([(⟨4, 1⟩ : Part), (⟨4, 1⟩ : Part)])⟩, ⟨13, [], sl' 6 Link.d ([(⟨0, 1, 0, 1, 2, 3⟩ : Link)])⟩], mem := [Obj.dead, Obj.dead], gl := (errG2 e) }) rfl (fun j hj => match j, hj with | 0, _ => rfl | j + 1, hj => absurd hj (by omega)) (Nat.zero_le _) (by kernel_rfl) ?_
  refine PL.build (cs := [sl' 2 Part.d ([(⟨4, 1⟩ : Part), (⟨4, 1⟩ : Part)]), sl' 6 Link.d ([(⟨0, 1, 0, 1, 2, 3⟩ : Link)]), I 0, I 0, I 0, I 0, I 0, I 0, I 0, I 0, I 0, I 0, I 0]) rfl (by kernel_rfl) (by kernel_rfl) (by kernel_rfl) ?_
  refine PL.rowK 2 [1] 3 (s' := { tab := [⟨1, [], D.p 2 0 0 0⟩], mem := [Obj.dead, Obj.dead, Obj.var 25 (Config.d aliveC)], gl := (errG2 e) }) (p := True) (by kernel_rfl) (by trivial) ?_
  refine PL.nil ?_
  show PW _ _ _ _ _
  refine PW.seq ?_
  refine PW.region ?_
  refine PL.rowK 1 [1, 16] 3 (s' := { tab := [⟨1, [], D.p 2 0 0 0⟩, ⟨16, [], D.r (Config.d aliveC)⟩], mem := [Obj.dead, Obj.dead, Obj.var 25 (Config.d aliveC)], gl := (errG2 e) }) (p := True) (by kernel_rfl) (by trivial) ?_
  refine PL.gcall (A := []) (f := 14) (ds := [D.r (Config.d aliveC)]) (by kernel_rfl) (by kernel_rfl) (by kernel_rfl) (by kernel_rfl) (by kernel_rfl) rfl (D.t [I 0, I 0]) (fun _ => (plan_Check_pc e hA aliveC (by decide) (by decide)).eq (by rw [alive_check])) ?_
  refine PL.rowK 5 [1, 2, 3] 3 (s' := { tab := [⟨1, [], D.p 2 0 0 0⟩, ⟨2, [], I 0⟩, ⟨3, [], I 0⟩], mem := [Obj.dead, Obj.dead, Obj.var 25 (Config.d aliveC)], gl := (errG2 e) }) (p := True) (by kernel_rfl) (by trivial) ?_
  refine PL.nil ?_
  show PW _ _ _ _ _
  refine PW.seq ?_
  refine PW.region ?_
  refine PL.rowK 1 [1, 2, 3, 21] 3 (s' := { tab := [⟨1, [], D.p 2 0 0 0⟩, ⟨2, [], I 0⟩, ⟨3, [], I 0⟩, ⟨21, [], D.r (Config.d aliveC)⟩], mem := [Obj.dead, Obj.dead, Obj.var 25 (Config.d aliveC)], gl := (errG2 e) }) (p := True) (by kernel_rfl) (by trivial) ?_
  refine PL.gcall (A := []) (f := 19) (ds := [D.r (Config.d aliveC), I 0, I 1]) (by kernel_rfl) (by kernel_rfl) (by kernel_rfl) (by kernel_rfl) (by kernel_rfl) rfl (D.t [I 1, I 3, D.v (.bool true)]) (fun _ => (plan_Far_pc e aliveC 0 1 (by decide) (by decide)).eq (by rw [alive_far]; rfl)) ?_
  refine PL.rowK 7 [1, 2, 3, 4, 5, 6] 3 (s' := { tab := [⟨1, [], D.p 2 0 0 0⟩, ⟨2, [], I 0⟩, ⟨3, [], I 0⟩, ⟨4, [], I 1⟩, ⟨5, [], I 3⟩, ⟨6, [], D.v (.bool true)⟩], mem := [Obj.dead, Obj.dead, Obj.var 25 (Config.d aliveC)], gl := (errG2 e) }) (p := True) (by kernel_rfl) (by trivial) ?_
  refine PL.nil ?_
  show PW _ _ _ _ _
  refine PW.seq ?_
  refine PW.region ?_
  refine PL.rowK 19 [43, 44] 3 (s' := { tab := [⟨43, [], D.v (.bool ((((true && true) && true) && true) && true))⟩, ⟨44, [(43, true)], D.r (Config.d aliveC)⟩], mem := [Obj.dead, Obj.dead, Obj.var 25 (Config.d aliveC)], gl := (errG2 e) }) (p := True) (by kernel_rfl) (by trivial) ?_
  refine PL.gcall (A := [(43, true)]) (f := 22) (ds := [D.r (Config.d aliveC), I 0]) (by kernel_rfl) (by kernel_rfl) (by kernel_rfl) (by kernel_rfl) (by kernel_rfl) rfl (sl' 4 Port.d (portsOf aliveC 0)) (fun _ => (plan_Ports_pc0 e aliveC 0 (by decide) (by decide)).list) ?_
  refine PL.rowK 4 [0] 3 (s' := { tab := [⟨0, [], D.v (.bool (((((true && true) && true) && true) && true) && (((portsOf aliveC 0).length : Int) == (2 : Int))))⟩], mem := [Obj.dead, Obj.dead, Obj.var 25 (Config.d aliveC)], gl := (errG2 e) }) (p := True) (by kernel_rfl) (by trivial) ?_
  refine PL.nil ?_
  show PW _ _ _ _ _
  refine PW.ret ?_
  refine retQ_ret (d := D.v (.bool (((((true && true) && true) && true) && true) && (((portsOf aliveC 0).length : Int) == (2 : Int))))) (ps := []) (by kernel_rfl) trivial ?_
  rw [alive_ports]
  rfl
end Go.Proofs.YtlcjcdgmiaakjaaDoor.Pl
