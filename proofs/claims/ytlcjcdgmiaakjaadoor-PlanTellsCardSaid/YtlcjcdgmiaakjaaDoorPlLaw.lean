/- Chapter 5's laws: num, small, PlanChecks. -/
import Derived.Test.YtlcjcdgmiaakjaaDoorPlReach
namespace Go.Proofs.YtlcjcdgmiaakjaaDoor.Pl
open Go.RowKit Go.Proofs.YtlcjcdgmiaakjaaDoor.Sm Go.Proofs.YtlcjcdgmiaakjaaDoor.Dp
set_option maxHeartbeats 4000000
set_option maxRecDepth 100000
set_option linter.unusedVariables false
set_option linter.unusedSimpArgs false
def smallB (c : Config) : Bool := decide ((c.parts.length : Int) ≤ 20) && decide ((c.links.length : Int) ≤ 30)
theorem smallB_true (c : Config) : smallB c = true ↔ c.parts.length ≤ 20 ∧ c.links.length ≤ 30 := by unfold smallB; simp only [Bool.and_eq_true, decide_eq_true_eq]; omega
theorem smallB_false (c : Config) : smallB c = false ↔ ¬ (c.parts.length ≤ 20 ∧ c.links.length ≤ 30) := by rw [← smallB_true]; simp
theorem drumlinelaw5_num_pc (n : Int) : PC Tryd.prog [] 16 [I n] (· = I n) := by
  refine PC.of (N := 4) Tryd.func16 rfl rfl (Nat.le_of_ble_eq_true rfl) ?_
  refine PW.seq ?_
  refine PW.region ?_
  refine PL.row 1 [0] 0 (s' := { tab := [⟨0, [], I n⟩], mem := [] }) (p := True) (by kernel_rfl) (by kernel_rfl) (by kernel_rfl) (by kernel_rfl) (by kernel_rfl) (by trivial) ?_
  refine PL.nil ?_
  show PW _ _ _ _ _
  refine PW.seq ?_
  refine PW.region ?_
  refine PL.row 2 [2] 0 (s' := { tab := [⟨2, [], I n⟩], mem := [] }) (p := True) (by kernel_rfl) (by kernel_rfl) (by kernel_rfl) (by kernel_rfl) (by kernel_rfl) (by trivial) ?_
  refine PL.nil ?_
  show PW _ _ _ _ _
  refine PW.ret ?_
  refine retQ_ret (d := I n) (ps := []) (by kernel_rfl) trivial ?_
  rfl
theorem drumlinelaw5_small_pc (c : Config) : PC Tryd.prog [] 13 [D.r (Config.d c)] (· = D.v (.bool (smallB c))) := by
  refine PC.of (N := 13) Tryd.func13 rfl rfl (Nat.le_of_ble_eq_true rfl) ?_
  refine PW.seq ?_
  refine PW.region ?_
  refine PL.row 2 [1] 1 (s' := { tab := [⟨1, [], D.p 0 0 0 0⟩], mem := [Obj.var 25 (Config.d c)] }) (p := True) (by kernel_rfl) (by kernel_rfl) (by kernel_rfl) (by kernel_rfl) (by kernel_rfl) (by trivial) ?_
  refine PL.nil ?_
  show PW _ _ _ _ _
  refine PW.seq ?_
  refine PW.region ?_
  refine PL.row 11 [2] 1 (s' := { tab := [⟨2, [], D.v (.bool ((decide ((c.parts.length : Int) ≤ (20 : Int))) && (decide ((c.links.length : Int) ≤ (30 : Int)))))⟩], mem := [Obj.var 25 (Config.d c)] }) (p := True) (by kernel_rfl) (by kernel_rfl) (by kernel_rfl) (by kernel_rfl) (by kernel_rfl) (by trivial) ?_
  refine PL.nil ?_
  show PW _ _ _ _ _
  refine PW.ret ?_
  refine retQ_ret (d := D.v (.bool ((decide ((c.parts.length : Int) ≤ (20 : Int))) && (decide ((c.links.length : Int) ≤ (30 : Int)))))) (ps := []) (by kernel_rfl) trivial ?_
  rfl
/-- what is left of it: that the law is alive. -/
theorem drumlinelaw5_PlanChecks_pc (e : Nat → Addr) (hA : Apart e) (c : Config) (hal : PC Tryd.prog (errG2 e) 12 [] (· = D.v (.bool true))) : PC Tryd.prog (errG2 e) 3 [D.r (Config.d c)] (· = D.v (.bool true)) := by
  refine PC.of (N := 34) Tryd.func3 rfl rfl (Nat.le_of_ble_eq_true rfl) ?_
  refine PW.seq ?_
  refine PW.region ?_
  refine PL.row 2 [1] 1 (s' := { tab := [⟨1, [], D.p 0 0 0 0⟩], mem := [Obj.var 25 (Config.d c)], gl := (errG2 e) }) (p := True) (by kernel_rfl) (by kernel_rfl) (by kernel_rfl) (by kernel_rfl) (by kernel_rfl) (by trivial) ?_
  refine PL.nil ?_
  show PW _ _ _ _ _
  refine PW.seq ?_
  refine PW.seq ?_
  refine PW.region ?_
  refine PL.gcall (A := []) (f := 12) (ds := []) (by kernel_rfl) (by kernel_rfl) (by kernel_rfl) (by kernel_rfl) (by kernel_rfl) rfl (D.v (.bool true)) (fun _ => hal) ?_
  refine PL.row 3 [1, 9, 10] 1 (s' := { tab := [⟨1, [], D.p 0 0 0 0⟩, ⟨9, [], D.v (.bool false)⟩, ⟨10, [(9, false)], D.r (Config.d c)⟩], mem := [Obj.var 25 (Config.d c)], gl := (errG2 e) }) (p := True) (by kernel_rfl) (by kernel_rfl) (by kernel_rfl) (by kernel_rfl) (by kernel_rfl) (by trivial) ?_
  refine PL.gcall (A := [(9, false)]) (f := 13) (ds := [D.r (Config.d c)]) (by kernel_rfl) (by kernel_rfl) (by kernel_rfl) (by kernel_rfl) (by kernel_rfl) rfl (D.v (.bool (smallB c))) (fun _ => PC.more (drumlinelaw5_small_pc c)) ?_
  refine PL.row 2 [1, 13] 1 (s' := { tab := [⟨1, [], D.p 0 0 0 0⟩, ⟨13, [], D.v (.bool (false || (!(smallB c))))⟩], mem := [Obj.var 25 (Config.d c)], gl := (errG2 e) }) (p := True) (by kernel_rfl) (by kernel_rfl) (by kernel_rfl) (by kernel_rfl) (by kernel_rfl) (by trivial) ?_
  refine PL.nil ?_
  show PW _ _ _ _ _
  refine PW.cond (z := (false || (!(smallB c)))) (by kernel_rfl) (fun hz0 => ?_) (fun hz0 => ?_)
  · skip
    try simp only [Bool.and_eq_true, Bool.or_eq_true, Bool.not_eq_true', Bool.and_eq_false_iff, Bool.or_eq_false_iff, Bool.not_eq_false', decide_eq_true_eq, decide_eq_false_iff_not, beq_iff_eq, bne_iff_ne, beq_eq_false_iff_ne, bne_eq_false_iff_eq, ne_eq, Bool.true_eq_false, Bool.false_eq_true, isB_true, isB_false, smallB_true, smallB_false, Bool.false_or, false_or, Classical.not_not] at hz0
    refine PW.seq ?_
    refine PW.region ?_
    refine PL.gcall (A := []) (f := 12) (ds := []) (by kernel_rfl) (by kernel_rfl) (by kernel_rfl) (by kernel_rfl) (by kernel_rfl) rfl (D.v (.bool true)) (fun _ => hal) ?_
    refine PL.row 1 [2] 1 (s' := { tab := [⟨2, [], D.v (.bool true)⟩], mem := [Obj.var 25 (Config.d c)], gl := (errG2 e) }) (p := True) (by kernel_rfl) (by kernel_rfl) (by kernel_rfl) (by kernel_rfl) (by kernel_rfl) (by trivial) ?_
    refine PL.nil ?_
    show PW _ _ _ _ _
    refine PW.ret ?_
    refine retQ_ret (d := D.v (.bool true)) (ps := []) (by kernel_rfl) trivial ?_
    rfl
  · skip
    try simp only [Bool.and_eq_true, Bool.or_eq_true, Bool.not_eq_true', Bool.and_eq_false_iff, Bool.or_eq_false_iff, Bool.not_eq_false', decide_eq_true_eq, decide_eq_false_iff_not, beq_iff_eq, bne_iff_ne, beq_eq_false_iff_ne, bne_eq_false_iff_eq, ne_eq, Bool.true_eq_false, Bool.false_eq_true, isB_true, isB_false, smallB_true, smallB_false, Bool.false_or, false_or, Classical.not_not] at hz0
    refine PW.skip ?_
    show PW _ _ _ _ _
    refine PW.seq ?_
    refine PW.region ?_
    refine PL.row 1 [1, 16] 1 (s' := { tab := [⟨1, [], D.p 0 0 0 0⟩, ⟨16, [], D.r (Config.d c)⟩], mem := [Obj.var 25 (Config.d c)], gl := (errG2 e) }) (p := True) (by kernel_rfl) (by kernel_rfl) (by kernel_rfl) (by kernel_rfl) (by kernel_rfl) (by trivial) ?_
    refine PL.gcall (A := []) (f := 14) (ds := [D.r (Config.d c)]) (by kernel_rfl) (by kernel_rfl) (by kernel_rfl) (by kernel_rfl) (by kernel_rfl) rfl (D.t [I ((checkP c).1), I ((checkP c).2)]) (fun _ => plan_Check_pc e hA c (by omega) (by omega)) ?_
    refine PL.row 5 [1, 3, 4] 1 (s' := { tab := [⟨1, [], D.p 0 0 0 0⟩, ⟨3, [], I ((checkP c).1)⟩, ⟨4, [], I ((checkP c).2)⟩], mem := [Obj.var 25 (Config.d c)], gl := (errG2 e) }) (p := True) (by kernel_rfl) (by kernel_rfl) (by kernel_rfl) (by kernel_rfl) (by kernel_rfl) (by trivial) ?_
    refine PL.nil ?_
    show PW _ _ _ _ _
    refine PW.seq ?_
    refine PW.region ?_
    refine PL.row 1 [3, 4, 21] 1 (s' := { tab := [⟨3, [], I ((checkP c).1)⟩, ⟨4, [], I ((checkP c).2)⟩, ⟨21, [], D.r (Config.d c)⟩], mem := [Obj.var 25 (Config.d c)], gl := (errG2 e) }) (p := True) (by kernel_rfl) (by kernel_rfl) (by kernel_rfl) (by kernel_rfl) (by kernel_rfl) (by trivial) ?_
    refine PL.gcall (A := []) (f := 15) (ds := [D.r (Config.d c)]) (by kernel_rfl) (by kernel_rfl) (by kernel_rfl) (by kernel_rfl) (by kernel_rfl) rfl (D.t [I ((checkR c).1), I ((checkR c).2)]) (fun _ => PC.more (drumlineref5_Check_pc c (by omega) (by omega))) ?_
    refine PL.row 5 [3, 4, 5, 6] 1 (s' := { tab := [⟨3, [], I ((checkP c).1)⟩, ⟨4, [], I ((checkP c).2)⟩, ⟨5, [], I ((checkR c).1)⟩, ⟨6, [], I ((checkR c).2)⟩], mem := [Obj.var 25 (Config.d c)], gl := (errG2 e) }) (p := True) (by kernel_rfl) (by kernel_rfl) (by kernel_rfl) (by kernel_rfl) (by kernel_rfl) (by trivial) ?_
    refine PL.nil ?_
    show PW _ _ _ _ _
    refine PW.seq ?_
    refine PW.region ?_
    refine PL.row 1 [4, 5, 6, 25] 1 (s' := { tab := [⟨4, [], I ((checkP c).2)⟩, ⟨5, [], I ((checkR c).1)⟩, ⟨6, [], I ((checkR c).2)⟩, ⟨25, [], I ((checkP c).1)⟩], mem := [Obj.var 25 (Config.d c)], gl := (errG2 e) }) (p := True) (by kernel_rfl) (by kernel_rfl) (by kernel_rfl) (by kernel_rfl) (by kernel_rfl) (by trivial) ?_
    refine PL.gcall (A := []) (f := 16) (ds := [I ((checkP c).1)]) (by kernel_rfl) (by kernel_rfl) (by kernel_rfl) (by kernel_rfl) (by kernel_rfl) rfl (I ((checkP c).1)) (fun _ => PC.more (drumlinelaw5_num_pc ((checkP c).1))) ?_
    refine PL.row 8 [2] 1 (s' := { tab := [⟨2, [], D.v (.bool ((((checkP c).1) == ((checkR c).1)) && (((checkP c).2) == ((checkR c).2))))⟩], mem := [Obj.var 25 (Config.d c)], gl := (errG2 e) }) (p := True) (by kernel_rfl) (by kernel_rfl) (by kernel_rfl) (by kernel_rfl) (by kernel_rfl) (by trivial) ?_
    refine PL.nil ?_
    show PW _ _ _ _ _
    refine PW.ret ?_
    refine retQ_ret (d := D.v (.bool ((((checkP c).1) == ((checkR c).1)) && (((checkP c).2) == ((checkR c).2))))) (ps := []) (by kernel_rfl) trivial ?_
    rw [check_same]
    simp
end Go.Proofs.YtlcjcdgmiaakjaaDoor.Pl
