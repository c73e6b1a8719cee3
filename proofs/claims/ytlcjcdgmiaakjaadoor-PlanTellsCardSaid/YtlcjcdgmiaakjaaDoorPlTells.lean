/- Chapter 5's laws: same, PlanTells. -/
import Derived.Test.YtlcjcdgmiaakjaaDoorPlRef
import Derived.Test.YtlcjcdgmiaakjaaDoorPlEq
import Derived.Test.YtlcjcdgmiaakjaaDoorPlAlive
namespace Go.Proofs.YtlcjcdgmiaakjaaDoor.Pl
open Go.RowKit Go.Proofs.YtlcjcdgmiaakjaaDoor.Sm Go.Proofs.YtlcjcdgmiaakjaaDoor.Dp
set_option maxHeartbeats 4000000
set_option maxRecDepth 100000
set_option linter.unusedVariables false
set_option linter.unusedSimpArgs false
theorem drumlinelaw5_same_pc (xs : List Port) (hx : xs.length ≤ 12) : PC Tryd.prog [] 21 [sl' 4 Port.d xs, sl' 4 Port.d xs] (· = D.v (.bool true)) := by
  refine PC.of (N := 26) Tryd.func21 rfl rfl (Nat.le_of_ble_eq_true rfl) ?_
  refine PW.seq ?_
  refine PW.region ?_
  refine PL.row 1 [0, 1] 0 (s' := { tab := [⟨0, [], sl' 4 Port.d xs⟩, ⟨1, [], sl' 4 Port.d xs⟩], mem := [] }) (p := True) (by kernel_rfl) (by kernel_rfl) (by kernel_rfl) (by kernel_rfl) (by kernel_rfl) (by trivial) ?_
  refine PL.nil ?_
  show PW _ _ _ _ _
  refine PW.seq ?_
  refine PW.seq ?_
  refine PW.region ?_
  refine PL.row 5 [0, 1, 10] 0 (s' := { tab := [⟨0, [], sl' 4 Port.d xs⟩, ⟨1, [], sl' 4 Port.d xs⟩, ⟨10, [], D.v (.bool ((xs.length : Int) != (xs.length : Int)))⟩], mem := [] }) (p := True) (by kernel_rfl) (by kernel_rfl) (by kernel_rfl) (by kernel_rfl) (by kernel_rfl) (by trivial) ?_
  refine PL.nil ?_
  show PW _ _ _ _ _
  refine PW.cond (z := ((xs.length : Int) != (xs.length : Int))) (by kernel_rfl) (fun hz0 => ?_) (fun hz0 => ?_)
  · skip
    try simp only [Bool.and_eq_true, Bool.or_eq_true, Bool.not_eq_true', Bool.and_eq_false_iff, Bool.or_eq_false_iff, Bool.not_eq_false', decide_eq_true_eq, decide_eq_false_iff_not, beq_iff_eq, bne_iff_ne, beq_eq_false_iff_ne, bne_eq_false_iff_eq, ne_eq, Bool.true_eq_false, Bool.false_eq_true, isB_true, isB_false] at hz0
    refine PW.seq ?_
    refine PW.region ?_
    refine PL.row 1 [4] 0 (s' := { tab := [⟨4, [], D.v (.bool false)⟩], mem := [] }) (p := True) (by kernel_rfl) (by kernel_rfl) (by kernel_rfl) (by kernel_rfl) (by kernel_rfl) (by trivial) ?_
    refine PL.nil ?_
    show PW _ _ _ _ _
    refine PW.ret ?_
    refine retQ_ret (d := D.v (.bool false)) (ps := []) (by kernel_rfl) trivial ?_
    exact absurd trivial hz0
  · skip
    try simp only [Bool.and_eq_true, Bool.or_eq_true, Bool.not_eq_true', Bool.and_eq_false_iff, Bool.or_eq_false_iff, Bool.not_eq_false', decide_eq_true_eq, decide_eq_false_iff_not, beq_iff_eq, bne_iff_ne, beq_eq_false_iff_ne, bne_eq_false_iff_eq, ne_eq, Bool.true_eq_false, Bool.false_eq_true, isB_true, isB_false] at hz0
    refine PW.skip ?_
    show PW _ _ _ _ _
    refine PW.seq ?_
    refine PW.seq ?_
    refine PW.region ?_
    refine PL.row 1 [0, 1, 5] 0 (s' := { tab := [⟨0, [], sl' 4 Port.d xs⟩, ⟨1, [], sl' 4 Port.d xs⟩, ⟨5, [], I 0⟩], mem := [] }) (p := True) (by kernel_rfl) (by kernel_rfl) (by kernel_rfl) (by kernel_rfl) (by kernel_rfl) (by trivial) ?_
    refine PL.nil ?_
    show PW _ _ _ _ _
    refine PW.block ?_
    refine PW.loopR (α := Nat) (fun i => { tab := [⟨0, [], sl' 4 Port.d xs⟩, ⟨1, [], sl' 4 Port.d xs⟩, ⟨5, [], I (i : Int)⟩], mem := [] }) (fun i => i ≤ xs.length) (fun i => xs.length - i) [0, 1, 5] 0 (0) (s1 := { tab := [⟨0, [], sl' 4 Port.d xs⟩, ⟨1, [], sl' 4 Port.d xs⟩, ⟨5, [], I 0⟩], mem := [] }) (by kernel_rfl) (by kernel_rfl) ?_ ?_ ?_
    · exact Rem.refl _
    · exact Nat.zero_le _
    rintro i hinv
    show PW _ _ _ _ _
    refine PW.seq ?_
    refine PW.seq ?_
    refine PW.region ?_
    refine PL.row 4 [0, 1, 5, 14] 0 (s' := { tab := [⟨0, [], sl' 4 Port.d xs⟩, ⟨1, [], sl' 4 Port.d xs⟩, ⟨5, [], I (i : Int)⟩, ⟨14, [], D.v (.bool (decide ((i : Int) < (xs.length : Int))))⟩], mem := [] }) (p := True) (by kernel_rfl) (by kernel_rfl) (by kernel_rfl) (by kernel_rfl) (by kernel_rfl) (by trivial) ?_
    refine PL.nil ?_
    show PW _ _ _ _ _
    refine PW.cond (z := (decide ((i : Int) < (xs.length : Int)))) (by kernel_rfl) (fun hz1 => ?_) (fun hz1 => ?_)
    · skip
      try simp only [Bool.and_eq_true, Bool.or_eq_true, Bool.not_eq_true', Bool.and_eq_false_iff, Bool.or_eq_false_iff, Bool.not_eq_false', decide_eq_true_eq, decide_eq_false_iff_not, beq_iff_eq, bne_iff_ne, beq_eq_false_iff_ne, bne_eq_false_iff_eq, ne_eq, Bool.true_eq_false, Bool.false_eq_true, isB_true, isB_false] at hz1
      refine PW.skip ?_
      show PW _ _ _ _ _
      refine PW.seq ?_
      refine PW.block ?_
      refine PW.seq ?_
      refine PW.open [] (by kernel_rfl) ?_
      refine PO.takes [0, 1, 2, 3, 4, 5, 6, 7] 9 [0, 1, 5, 20, 24] 0 (n := 1) (s' := { tab := [⟨0, [], sl' 4 Port.d xs⟩, ⟨1, [], sl' 4 Port.d xs⟩, ⟨5, [], I (i : Int)⟩, ⟨20, [], D.r [I ((xs.getD i default).node), I ((xs.getD i default).link), I ((xs.getD i default).gate), I ((xs.getD i default).side)]⟩, ⟨24, [], D.r [I ((xs.getD i default).node), I ((xs.getD i default).link), I ((xs.getD i default).gate), I ((xs.getD i default).side)]⟩], mem := [] }) (p := (0 ≤ (i : Int) ∧ (i : Int) < (xs.length : Int)) ∧ (0 ≤ (i : Int) ∧ (i : Int) < (xs.length : Int))) (by kernel_rfl) (fun _ _ h => h) (by kernel_rfl) (by kernel_rfl) (by kernel_rfl) (by kernel_rfl) (by kernel_rfl) (by kernel_rfl) (by kernel_rfl) (by kernel_rfl) (by ((repeat' (first | intro _ | refine And.intro ?_ ?_)) <;> first | omega | trivial | assumption | (rename_i hgd; simp only [Bool.and_eq_true, decide_eq_true_eq, and_true] at hgd; omega))) ?_
      refine PO.one (n := 0) 8 (by kernel_rfl) ?_
      refine PO1.eqP (A := []) (xs.getD i default) (xs.getD i default) (!(Port.eqB (xs.getD i default) (xs.getD i default))) rfl rfl (by first | exact .inl ⟨rfl, rfl⟩ | exact .inr ⟨rfl, rfl⟩) (by kernel_rfl) (by kernel_rfl) (by kernel_rfl) (by kernel_rfl) ?_
      refine PO.done (by kernel_rfl) ?_
      show PW _ _ _ _ _
      refine PW.cond (z := (!(Port.eqB (xs.getD i default) (xs.getD i default)))) (by kernel_rfl) (fun hz2 => ?_) (fun hz2 => ?_)
      · skip
        try simp only [Bool.and_eq_true, Bool.or_eq_true, Bool.not_eq_true', Bool.and_eq_false_iff, Bool.or_eq_false_iff, Bool.not_eq_false', decide_eq_true_eq, decide_eq_false_iff_not, beq_iff_eq, bne_iff_ne, beq_eq_false_iff_ne, bne_eq_false_iff_eq, ne_eq, Bool.true_eq_false, Bool.false_eq_true, isB_true, isB_false] at hz2
        refine PW.seq ?_
        refine PW.region ?_
        refine PL.row 1 [4] 0 (s' := { tab := [⟨4, [], D.v (.bool false)⟩], mem := [] }) (p := True) (by kernel_rfl) (by kernel_rfl) (by kernel_rfl) (by kernel_rfl) (by kernel_rfl) (by trivial) ?_
        refine PL.nil ?_
        show PW _ _ _ _ _
        refine PW.ret ?_
        refine retQ_ret (d := D.v (.bool false)) (ps := []) (by kernel_rfl) trivial ?_
        exact absurd hz2 (by simp [Port.eqB_self])
      · skip
        try simp only [Bool.and_eq_true, Bool.or_eq_true, Bool.not_eq_true', Bool.and_eq_false_iff, Bool.or_eq_false_iff, Bool.not_eq_false', decide_eq_true_eq, decide_eq_false_iff_not, beq_iff_eq, bne_iff_ne, beq_eq_false_iff_ne, bne_eq_false_iff_eq, ne_eq, Bool.true_eq_false, Bool.false_eq_true, isB_true, isB_false] at hz2
        refine PW.skip ?_
        show PW _ _ _ _ _
        refine PW.region ?_
        refine PL.row 3 [0, 1, 5] 0 (s' := { tab := [⟨0, [], sl' 4 Port.d xs⟩, ⟨1, [], sl' 4 Port.d xs⟩, ⟨5, [], I (IntKind.i64.wrap ((i : Int) + 1))⟩], mem := [] }) (p := True) (by kernel_rfl) (by kernel_rfl) (by kernel_rfl) (by kernel_rfl) (by kernel_rfl) (by trivial) ?_
        refine PL.nil ?_
        refine BackR.of (s1 := { tab := [⟨0, [], sl' 4 Port.d xs⟩, ⟨1, [], sl' 4 Port.d xs⟩, ⟨5, [], I (IntKind.i64.wrap ((i : Int) + 1))⟩], mem := [] }) (i + 1) (by kernel_rfl) (by kernel_rfl) ?_ ?_ ?_
        · rw [wrap1 i (by omega)]
          exact Rem.refl _
        · omega
        · ((repeat' (first | intro _ | refine And.intro ?_ ?_)) <;> first | omega | trivial | assumption | (rename_i hgd; simp only [Bool.and_eq_true, decide_eq_true_eq, and_true] at hgd; omega))
    · skip
      try simp only [Bool.and_eq_true, Bool.or_eq_true, Bool.not_eq_true', Bool.and_eq_false_iff, Bool.or_eq_false_iff, Bool.not_eq_false', decide_eq_true_eq, decide_eq_false_iff_not, beq_iff_eq, bne_iff_ne, beq_eq_false_iff_ne, bne_eq_false_iff_eq, ne_eq, Bool.true_eq_false, Bool.false_eq_true, isB_true, isB_false] at hz1
      refine PW.exit ?_
      show PW _ _ _ _ _
      refine PW.seq ?_
      refine PW.region ?_
      refine PL.row 1 [4] 0 (s' := { tab := [⟨4, [], D.v (.bool true)⟩], mem := [] }) (p := True) (by kernel_rfl) (by kernel_rfl) (by kernel_rfl) (by kernel_rfl) (by kernel_rfl) (by trivial) ?_
      refine PL.nil ?_
      show PW _ _ _ _ _
      refine PW.ret ?_
      refine retQ_ret (d := D.v (.bool true)) (ps := []) (by kernel_rfl) trivial ?_
      rfl
theorem drumlinelaw5_PlanTells_pc (e : Nat → Addr) (hA : Apart e) (c : Config) (part node : Int) : PC Tryd.prog (errG2 e) 4 [D.r (Config.d c), I part, I node] (· = D.v (.bool true)) := by
  refine PC.of (N := 87) Tryd.func4 rfl rfl (Nat.le_of_ble_eq_true rfl) ?_
  refine PW.seq ?_
  refine PW.region ?_
  refine PL.row 2 [1, 2, 3] 1 (s' := { tab := [⟨1, [], I part⟩, ⟨2, [], I node⟩, ⟨3, [], D.p 0 0 0 0⟩], mem := [Obj.var 25 (Config.d c)], gl := (errG2 e) }) (p := True) (by kernel_rfl) (by kernel_rfl) (by kernel_rfl) (by kernel_rfl) (by kernel_rfl) (by trivial) ?_
  refine PL.nil ?_
  show PW _ _ _ _ _
  refine PW.seq ?_
  refine PW.seq ?_
  refine PW.region ?_
  refine PL.gcall (A := []) (f := 12) (ds := []) (by kernel_rfl) (by kernel_rfl) (by kernel_rfl) (by kernel_rfl) (by kernel_rfl) rfl (D.v (.bool true)) (fun _ => drumlinelaw5_alive_pc e hA) ?_
  refine PL.row 3 [1, 2, 3, 19, 20] 1 (s' := { tab := [⟨1, [], I part⟩, ⟨2, [], I node⟩, ⟨3, [], D.p 0 0 0 0⟩, ⟨19, [], D.v (.bool false)⟩, ⟨20, [(19, false)], D.r (Config.d c)⟩], mem := [Obj.var 25 (Config.d c)], gl := (errG2 e) }) (p := True) (by kernel_rfl) (by kernel_rfl) (by kernel_rfl) (by kernel_rfl) (by kernel_rfl) (by trivial) ?_
  refine PL.gcall (A := [(19, false)]) (f := 13) (ds := [D.r (Config.d c)]) (by kernel_rfl) (by kernel_rfl) (by kernel_rfl) (by kernel_rfl) (by kernel_rfl) rfl (D.v (.bool (smallB c))) (fun _ => PC.more (drumlinelaw5_small_pc c)) ?_
  refine PL.row 2 [1, 2, 3, 23] 1 (s' := { tab := [⟨1, [], I part⟩, ⟨2, [], I node⟩, ⟨3, [], D.p 0 0 0 0⟩, ⟨23, [], D.v (.bool (false || (!(smallB c))))⟩], mem := [Obj.var 25 (Config.d c)], gl := (errG2 e) }) (p := True) (by kernel_rfl) (by kernel_rfl) (by kernel_rfl) (by kernel_rfl) (by kernel_rfl) (by trivial) ?_
  refine PL.nil ?_
  show PW _ _ _ _ _
  refine PW.cond (z := (false || (!(smallB c)))) (by kernel_rfl) (fun hz0 => ?_) (fun hz0 => ?_)
  · skip
    try simp only [Bool.and_eq_true, Bool.or_eq_true, Bool.not_eq_true', Bool.and_eq_false_iff, Bool.or_eq_false_iff, Bool.not_eq_false', decide_eq_true_eq, decide_eq_false_iff_not, beq_iff_eq, bne_iff_ne, beq_eq_false_iff_ne, bne_eq_false_iff_eq, ne_eq, Bool.true_eq_false, Bool.false_eq_true, isB_true, isB_false, smallB_true, smallB_false, Bool.false_or, false_or, Classical.not_not] at hz0
    refine PW.seq ?_
    refine PW.region ?_
    refine PL.gcall (A := []) (f := 12) (ds := []) (by kernel_rfl) (by kernel_rfl) (by kernel_rfl) (by kernel_rfl) (by kernel_rfl) rfl (D.v (.bool true)) (fun _ => drumlinelaw5_alive_pc e hA) ?_
    refine PL.row 1 [6] 1 (s' := { tab := [⟨6, [], D.v (.bool true)⟩], mem := [Obj.var 25 (Config.d c)], gl := (errG2 e) }) (p := True) (by kernel_rfl) (by kernel_rfl) (by kernel_rfl) (by kernel_rfl) (by kernel_rfl) (by trivial) ?_
    refine PL.nil ?_
    show PW _ _ _ _ _
    refine PW.ret ?_
    refine retQ_ret (d := D.v (.bool true)) (ps := []) (by kernel_rfl) trivial ?_
    rfl
  · skip
    try simp only [Bool.and_eq_true, Bool.or_eq_true, Bool.not_eq_true', Bool.and_eq_false_iff, Bool.or_eq_false_iff, Bool.not_eq_false', decide_eq_true_eq, decide_eq_false_iff_not, beq_iff_eq, bne_iff_ne, beq_eq_false_iff_ne, bne_eq_false_iff_eq, ne_eq, Bool.true_eq_false, Bool.false_eq_true, isB_true, isB_false, smallB_true, smallB_false, Bool.false_or, false_or, Classical.not_not] at hz0
    refine PW.skip ?_
    show PW _ _ _ _ _
    refine PW.seq ?_
    refine PW.region ?_
    refine PL.row 3 [1, 2, 3, 26, 27, 28] 1 (s' := { tab := [⟨1, [], I part⟩, ⟨2, [], I node⟩, ⟨3, [], D.p 0 0 0 0⟩, ⟨26, [], D.r (Config.d c)⟩, ⟨27, [], I part⟩, ⟨28, [], I node⟩], mem := [Obj.var 25 (Config.d c)], gl := (errG2 e) }) (p := True) (by kernel_rfl) (by kernel_rfl) (by kernel_rfl) (by kernel_rfl) (by kernel_rfl) (by trivial) ?_
    refine PL.gcall (A := []) (f := 17) (ds := [D.r (Config.d c), I part, I node]) (by kernel_rfl) (by kernel_rfl) (by kernel_rfl) (by kernel_rfl) (by kernel_rfl) rfl (D.t [D.r [I (((portQ c part node).getD ⟨0, 0, 0, 0⟩).node), I (((portQ c part node).getD ⟨0, 0, 0, 0⟩).link), I (((portQ c part node).getD ⟨0, 0, 0, 0⟩).gate), I (((portQ c part node).getD ⟨0, 0, 0, 0⟩).side)], D.v (.bool ((portQ c part node).isSome))]) (fun _ => plan_Port_pc e c part node (by omega) (by omega)) ?_
    refine PL.row 6 [1, 2, 3, 7, 8] 2 (s' := { tab := [⟨1, [], I part⟩, ⟨2, [], I node⟩, ⟨3, [], D.p 0 0 0 0⟩, ⟨7, [], D.p 1 0 0 0⟩, ⟨8, [], D.v (.bool ((portQ c part node).isSome))⟩], mem := [Obj.var 25 (Config.d c), Obj.var 35 [I (((portQ c part node).getD ⟨0, 0, 0, 0⟩).node), I (((portQ c part node).getD ⟨0, 0, 0, 0⟩).link), I (((portQ c part node).getD ⟨0, 0, 0, 0⟩).gate), I (((portQ c part node).getD ⟨0, 0, 0, 0⟩).side)]], gl := (errG2 e) }) (p := True) (by kernel_rfl) (by kernel_rfl) (by kernel_rfl) (by kernel_rfl) (by kernel_rfl) (by trivial) ?_
    refine PL.nil ?_
    show PW _ _ _ _ _
    refine PW.seq ?_
    refine PW.region ?_
    refine PL.row 3 [1, 2, 3, 7, 8, 33, 34, 35] 2 (s' := { tab := [⟨1, [], I part⟩, ⟨2, [], I node⟩, ⟨3, [], D.p 0 0 0 0⟩, ⟨7, [], D.p 1 0 0 0⟩, ⟨8, [], D.v (.bool ((portQ c part node).isSome))⟩, ⟨33, [], D.r (Config.d c)⟩, ⟨34, [], I part⟩, ⟨35, [], I node⟩], mem := [Obj.var 25 (Config.d c), Obj.var 35 [I (((portQ c part node).getD ⟨0, 0, 0, 0⟩).node), I (((portQ c part node).getD ⟨0, 0, 0, 0⟩).link), I (((portQ c part node).getD ⟨0, 0, 0, 0⟩).gate), I (((portQ c part node).getD ⟨0, 0, 0, 0⟩).side)]], gl := (errG2 e) }) (p := True) (by kernel_rfl) (by kernel_rfl) (by kernel_rfl) (by kernel_rfl) (by kernel_rfl) (by trivial) ?_
    refine PL.gcall (A := []) (f := 18) (ds := [D.r (Config.d c), I part, I node]) (by kernel_rfl) (by kernel_rfl) (by kernel_rfl) (by kernel_rfl) (by kernel_rfl) rfl (D.t [D.r [I (((portQ c part node).getD ⟨0, 0, 0, 0⟩).node), I (((portQ c part node).getD ⟨0, 0, 0, 0⟩).link), I (((portQ c part node).getD ⟨0, 0, 0, 0⟩).gate), I (((portQ c part node).getD ⟨0, 0, 0, 0⟩).side)], D.v (.bool ((portQ c part node).isSome))]) (fun _ => PC.more (drumlineref5_Port_pc c part node (by omega) (by omega))) ?_
    refine PL.row 6 [1, 2, 3, 7, 8, 9, 10] 3 (s' := { tab := [⟨1, [], I part⟩, ⟨2, [], I node⟩, ⟨3, [], D.p 0 0 0 0⟩, ⟨7, [], D.p 1 0 0 0⟩, ⟨8, [], D.v (.bool ((portQ c part node).isSome))⟩, ⟨9, [], D.p 2 0 0 0⟩, ⟨10, [], D.v (.bool ((portQ c part node).isSome))⟩], mem := [Obj.var 25 (Config.d c), Obj.var 35 [I (((portQ c part node).getD ⟨0, 0, 0, 0⟩).node), I (((portQ c part node).getD ⟨0, 0, 0, 0⟩).link), I (((portQ c part node).getD ⟨0, 0, 0, 0⟩).gate), I (((portQ c part node).getD ⟨0, 0, 0, 0⟩).side)], Obj.var 35 [I (((portQ c part node).getD ⟨0, 0, 0, 0⟩).node), I (((portQ c part node).getD ⟨0, 0, 0, 0⟩).link), I (((portQ c part node).getD ⟨0, 0, 0, 0⟩).gate), I (((portQ c part node).getD ⟨0, 0, 0, 0⟩).side)]], gl := (errG2 e) }) (p := True) (by kernel_rfl) (by kernel_rfl) (by kernel_rfl) (by kernel_rfl) (by kernel_rfl) (by trivial) ?_
    refine PL.nil ?_
    show PW _ _ _ _ _
    refine PW.seq ?_
    refine PW.region ?_
    refine PL.row 3 [1, 2, 3, 7, 8, 9, 10, 40, 41, 42] 3 (s' := { tab := [⟨1, [], I part⟩, ⟨2, [], I node⟩, ⟨3, [], D.p 0 0 0 0⟩, ⟨7, [], D.p 1 0 0 0⟩, ⟨8, [], D.v (.bool ((portQ c part node).isSome))⟩, ⟨9, [], D.p 2 0 0 0⟩, ⟨10, [], D.v (.bool ((portQ c part node).isSome))⟩, ⟨40, [], D.r (Config.d c)⟩, ⟨41, [], I part⟩, ⟨42, [], I node⟩], mem := [Obj.var 25 (Config.d c), Obj.var 35 [I (((portQ c part node).getD ⟨0, 0, 0, 0⟩).node), I (((portQ c part node).getD ⟨0, 0, 0, 0⟩).link), I (((portQ c part node).getD ⟨0, 0, 0, 0⟩).gate), I (((portQ c part node).getD ⟨0, 0, 0, 0⟩).side)], Obj.var 35 [I (((portQ c part node).getD ⟨0, 0, 0, 0⟩).node), I (((portQ c part node).getD ⟨0, 0, 0, 0⟩).link), I (((portQ c part node).getD ⟨0, 0, 0, 0⟩).gate), I (((portQ c part node).getD ⟨0, 0, 0, 0⟩).side)]], gl := (errG2 e) }) (p := True) (by kernel_rfl) (by kernel_rfl) (by kernel_rfl) (by kernel_rfl) (by kernel_rfl) (by trivial) ?_
    refine PL.gcall (A := []) (f := 19) (ds := [D.r (Config.d c), I part, I node]) (by kernel_rfl) (by kernel_rfl) (by kernel_rfl) (by kernel_rfl) (by kernel_rfl) rfl (D.t [I (((farQ c part node).getD (0, 0)).1), I (((farQ c part node).getD (0, 0)).2), D.v (.bool ((farQ c part node).isSome))]) (fun _ => plan_Far_pc e c part node (by omega) (by omega)) ?_
    refine PL.row 7 [1, 2, 3, 7, 8, 9, 10, 11, 12, 13] 3 (s' := { tab := [⟨1, [], I part⟩, ⟨2, [], I node⟩, ⟨3, [], D.p 0 0 0 0⟩, ⟨7, [], D.p 1 0 0 0⟩, ⟨8, [], D.v (.bool ((portQ c part node).isSome))⟩, ⟨9, [], D.p 2 0 0 0⟩, ⟨10, [], D.v (.bool ((portQ c part node).isSome))⟩, ⟨11, [], I (((farQ c part node).getD (0, 0)).1)⟩, ⟨12, [], I (((farQ c part node).getD (0, 0)).2)⟩, ⟨13, [], D.v (.bool ((farQ c part node).isSome))⟩], mem := [Obj.var 25 (Config.d c), Obj.var 35 [I (((portQ c part node).getD ⟨0, 0, 0, 0⟩).node), I (((portQ c part node).getD ⟨0, 0, 0, 0⟩).link), I (((portQ c part node).getD ⟨0, 0, 0, 0⟩).gate), I (((portQ c part node).getD ⟨0, 0, 0, 0⟩).side)], Obj.var 35 [I (((portQ c part node).getD ⟨0, 0, 0, 0⟩).node), I (((portQ c part node).getD ⟨0, 0, 0, 0⟩).link), I (((portQ c part node).getD ⟨0, 0, 0, 0⟩).gate), I (((portQ c part node).getD ⟨0, 0, 0, 0⟩).side)]], gl := (errG2 e) }) (p := True) (by kernel_rfl) (by kernel_rfl) (by kernel_rfl) (by kernel_rfl) (by kernel_rfl) (by trivial) ?_
    refine PL.nil ?_
    show PW _ _ _ _ _
    refine PW.seq ?_
    refine PW.region ?_
    refine PL.row 3 [1, 3, 7, 8, 9, 10, 11, 12, 13, 48, 49, 50] 3 (s' := { tab := [⟨1, [], I part⟩, ⟨3, [], D.p 0 0 0 0⟩, ⟨7, [], D.p 1 0 0 0⟩, ⟨8, [], D.v (.bool ((portQ c part node).isSome))⟩, ⟨9, [], D.p 2 0 0 0⟩, ⟨10, [], D.v (.bool ((portQ c part node).isSome))⟩, ⟨11, [], I (((farQ c part node).getD (0, 0)).1)⟩, ⟨12, [], I (((farQ c part node).getD (0, 0)).2)⟩, ⟨13, [], D.v (.bool ((farQ c part node).isSome))⟩, ⟨48, [], D.r (Config.d c)⟩, ⟨49, [], I part⟩, ⟨50, [], I node⟩], mem := [Obj.var 25 (Config.d c), Obj.var 35 [I (((portQ c part node).getD ⟨0, 0, 0, 0⟩).node), I (((portQ c part node).getD ⟨0, 0, 0, 0⟩).link), I (((portQ c part node).getD ⟨0, 0, 0, 0⟩).gate), I (((portQ c part node).getD ⟨0, 0, 0, 0⟩).side)], Obj.var 35 [I (((portQ c part node).getD ⟨0, 0, 0, 0⟩).node), I (((portQ c part node).getD ⟨0, 0, 0, 0⟩).link), I (((portQ c part node).getD ⟨0, 0, 0, 0⟩).gate), I (((portQ c part node).getD ⟨0, 0, 0, 0⟩).side)]], gl := (errG2 e) }) (p := True) (by kernel_rfl) (by kernel_rfl) (by kernel_rfl) (by kernel_rfl) (by kernel_rfl) (by trivial) ?_
    refine PL.gcall (A := []) (f := 20) (ds := [D.r (Config.d c), I part, I node]) (by kernel_rfl) (by kernel_rfl) (by kernel_rfl) (by kernel_rfl) (by kernel_rfl) rfl (D.t [I (((farQ c part node).getD (0, 0)).1), I (((farQ c part node).getD (0, 0)).2), D.v (.bool ((farQ c part node).isSome))]) (fun _ => PC.more (drumlineref5_Far_pc c part node (by omega) (by omega))) ?_
    refine PL.row 7 [1, 3, 7, 8, 9, 10, 11, 12, 13, 14, 15, 16] 3 (s' := { tab := [⟨1, [], I part⟩, ⟨3, [], D.p 0 0 0 0⟩, ⟨7, [], D.p 1 0 0 0⟩, ⟨8, [], D.v (.bool ((portQ c part node).isSome))⟩, ⟨9, [], D.p 2 0 0 0⟩, ⟨10, [], D.v (.bool ((portQ c part node).isSome))⟩, ⟨11, [], I (((farQ c part node).getD (0, 0)).1)⟩, ⟨12, [], I (((farQ c part node).getD (0, 0)).2)⟩, ⟨13, [], D.v (.bool ((farQ c part node).isSome))⟩, ⟨14, [], I (((farQ c part node).getD (0, 0)).1)⟩, ⟨15, [], I (((farQ c part node).getD (0, 0)).2)⟩, ⟨16, [], D.v (.bool ((farQ c part node).isSome))⟩], mem := [Obj.var 25 (Config.d c), Obj.var 35 [I (((portQ c part node).getD ⟨0, 0, 0, 0⟩).node), I (((portQ c part node).getD ⟨0, 0, 0, 0⟩).link), I (((portQ c part node).getD ⟨0, 0, 0, 0⟩).gate), I (((portQ c part node).getD ⟨0, 0, 0, 0⟩).side)], Obj.var 35 [I (((portQ c part node).getD ⟨0, 0, 0, 0⟩).node), I (((portQ c part node).getD ⟨0, 0, 0, 0⟩).link), I (((portQ c part node).getD ⟨0, 0, 0, 0⟩).gate), I (((portQ c part node).getD ⟨0, 0, 0, 0⟩).side)]], gl := (errG2 e) }) (p := True) (by kernel_rfl) (by kernel_rfl) (by kernel_rfl) (by kernel_rfl) (by kernel_rfl) (by trivial) ?_
    refine PL.nil ?_
    show PW _ _ _ _ _
    refine PW.seq ?_
    refine PW.open [] (by kernel_rfl) ?_
    refine PO.takes [0, 1] 33 [1, 3, 8, 10, 11, 12, 13, 14, 15, 16, 55, 56] 3 (n := 31) (s' := { tab := [⟨1, [], I part⟩, ⟨3, [], D.p 0 0 0 0⟩, ⟨8, [], D.v (.bool ((portQ c part node).isSome))⟩, ⟨10, [], D.v (.bool ((portQ c part node).isSome))⟩, ⟨11, [], I (((farQ c part node).getD (0, 0)).1)⟩, ⟨12, [], I (((farQ c part node).getD (0, 0)).2)⟩, ⟨13, [], D.v (.bool ((farQ c part node).isSome))⟩, ⟨14, [], I (((farQ c part node).getD (0, 0)).1)⟩, ⟨15, [], I (((farQ c part node).getD (0, 0)).2)⟩, ⟨16, [], D.v (.bool ((farQ c part node).isSome))⟩, ⟨55, [], D.r [I (((portQ c part node).getD ⟨0, 0, 0, 0⟩).node), I (((portQ c part node).getD ⟨0, 0, 0, 0⟩).link), I (((portQ c part node).getD ⟨0, 0, 0, 0⟩).gate), I (((portQ c part node).getD ⟨0, 0, 0, 0⟩).side)]⟩, ⟨56, [], D.r [I (((portQ c part node).getD ⟨0, 0, 0, 0⟩).node), I (((portQ c part node).getD ⟨0, 0, 0, 0⟩).link), I (((portQ c part node).getD ⟨0, 0, 0, 0⟩).gate), I (((portQ c part node).getD ⟨0, 0, 0, 0⟩).side)]⟩], mem := [Obj.var 25 (Config.d c), Obj.var 35 [I (((portQ c part node).getD ⟨0, 0, 0, 0⟩).node), I (((portQ c part node).getD ⟨0, 0, 0, 0⟩).link), I (((portQ c part node).getD ⟨0, 0, 0, 0⟩).gate), I (((portQ c part node).getD ⟨0, 0, 0, 0⟩).side)], Obj.var 35 [I (((portQ c part node).getD ⟨0, 0, 0, 0⟩).node), I (((portQ c part node).getD ⟨0, 0, 0, 0⟩).link), I (((portQ c part node).getD ⟨0, 0, 0, 0⟩).gate), I (((portQ c part node).getD ⟨0, 0, 0, 0⟩).side)]], gl := (errG2 e) }) (p := True) (by kernel_rfl) (fun _ _ h => h) (by kernel_rfl) (by kernel_rfl) (by kernel_rfl) (by kernel_rfl) (by kernel_rfl) (by kernel_rfl) (by kernel_rfl) (by kernel_rfl) (by trivial) ?_
    refine PO.one (n := 30) 2 (by kernel_rfl) ?_
    refine PO1.eqP (A := []) ((portQ c part node).getD ⟨0, 0, 0, 0⟩) ((portQ c part node).getD ⟨0, 0, 0, 0⟩) (Port.eqB ((portQ c part node).getD ⟨0, 0, 0, 0⟩) ((portQ c part node).getD ⟨0, 0, 0, 0⟩)) rfl rfl (by first | exact .inl ⟨rfl, rfl⟩ | exact .inr ⟨rfl, rfl⟩) (by kernel_rfl) (by kernel_rfl) (by kernel_rfl) (by kernel_rfl) ?_
    refine PO.takes [3, 4, 5, 6, 7, 8, 9, 10, 11, 12, 13, 14, 15, 16, 17, 18, 19, 20, 21, 22, 23, 24, 25, 27, 28] 30 [78, 79, 80, 82, 83] 3 (n := 5) (s' := { tab := [⟨78, [], D.v (.bool (((((Port.eqB ((portQ c part node).getD ⟨0, 0, 0, 0⟩) ((portQ c part node).getD ⟨0, 0, 0, 0⟩)) && (((portQ c part node).isSome) == ((portQ c part node).isSome))) && ((((farQ c part node).getD (0, 0)).1) == (((farQ c part node).getD (0, 0)).1))) && ((((farQ c part node).getD (0, 0)).2) == (((farQ c part node).getD (0, 0)).2))) && (((farQ c part node).isSome) == ((farQ c part node).isSome))))⟩, ⟨79, [(78, true)], D.r (Config.d c)⟩, ⟨80, [(78, true)], I part⟩, ⟨82, [(78, true)], D.r (Config.d c)⟩, ⟨83, [(78, true)], I part⟩], mem := [Obj.var 25 (Config.d c), Obj.var 35 [I (((portQ c part node).getD ⟨0, 0, 0, 0⟩).node), I (((portQ c part node).getD ⟨0, 0, 0, 0⟩).link), I (((portQ c part node).getD ⟨0, 0, 0, 0⟩).gate), I (((portQ c part node).getD ⟨0, 0, 0, 0⟩).side)], Obj.var 35 [I (((portQ c part node).getD ⟨0, 0, 0, 0⟩).node), I (((portQ c part node).getD ⟨0, 0, 0, 0⟩).link), I (((portQ c part node).getD ⟨0, 0, 0, 0⟩).gate), I (((portQ c part node).getD ⟨0, 0, 0, 0⟩).side)]], gl := (errG2 e) }) (p := True) (by kernel_rfl) (fun _ _ h => h) (by kernel_rfl) (by kernel_rfl) (by kernel_rfl) (by kernel_rfl) (by kernel_rfl) (by kernel_rfl) (by kernel_rfl) (by kernel_rfl) (by trivial) ?_
    refine PO.one (n := 4) 26 (by kernel_rfl) ?_
    refine PO1.gcall (A := [(78, true)]) (f := 22) (ds := [D.r (Config.d c), I part]) rfl (by kernel_rfl) (by kernel_rfl) (by kernel_rfl) (by kernel_rfl) (by kernel_rfl) rfl (sl' 4 Port.d (portsOf c part)) (fun _ => (plan_Ports_pc0 e c part (by omega) (by omega)).list) ?_
    refine PO.one (n := 3) 29 (by kernel_rfl) ?_
    refine PO1.gcall (A := [(78, true)]) (f := 23) (ds := [D.r (Config.d c), I part]) rfl (by kernel_rfl) (by kernel_rfl) (by kernel_rfl) (by kernel_rfl) (by kernel_rfl) rfl (sl' 4 Port.d (portsOf c part)) (fun _ => PC.more ((drumlineref5_Ports_pc0 c part (by omega) (by omega)).list)) ?_
    refine PO.one (n := 2) 30 (by kernel_rfl) ?_
    refine PO1.gcall (A := [(78, true)]) (f := 21) (ds := [sl' 4 Port.d (portsOf c part), sl' 4 Port.d (portsOf c part)]) rfl (by kernel_rfl) (by kernel_rfl) (by kernel_rfl) (by kernel_rfl) (by kernel_rfl) rfl (D.v (.bool true)) (fun _ => PC.more (drumlinelaw5_same_pc (portsOf c part) (portsOf_len c part))) ?_
    refine PO.takes [31, 32] 2 [6] 3 (n := 0) (s' := { tab := [⟨6, [], D.v (.bool ((((((Port.eqB ((portQ c part node).getD ⟨0, 0, 0, 0⟩) ((portQ c part node).getD ⟨0, 0, 0, 0⟩)) && (((portQ c part node).isSome) == ((portQ c part node).isSome))) && ((((farQ c part node).getD (0, 0)).1) == (((farQ c part node).getD (0, 0)).1))) && ((((farQ c part node).getD (0, 0)).2) == (((farQ c part node).getD (0, 0)).2))) && (((farQ c part node).isSome) == ((farQ c part node).isSome))) && true))⟩], mem := [Obj.var 25 (Config.d c), Obj.var 35 [I (((portQ c part node).getD ⟨0, 0, 0, 0⟩).node), I (((portQ c part node).getD ⟨0, 0, 0, 0⟩).link), I (((portQ c part node).getD ⟨0, 0, 0, 0⟩).gate), I (((portQ c part node).getD ⟨0, 0, 0, 0⟩).side)], Obj.var 35 [I (((portQ c part node).getD ⟨0, 0, 0, 0⟩).node), I (((portQ c part node).getD ⟨0, 0, 0, 0⟩).link), I (((portQ c part node).getD ⟨0, 0, 0, 0⟩).gate), I (((portQ c part node).getD ⟨0, 0, 0, 0⟩).side)]], gl := (errG2 e) }) (p := True) (by kernel_rfl) (fun _ _ h => h) (by kernel_rfl) (by kernel_rfl) (by kernel_rfl) (by kernel_rfl) (by kernel_rfl) (by kernel_rfl) (by kernel_rfl) (by kernel_rfl) (by trivial) ?_
    refine PO.done (by kernel_rfl) ?_
    show PW _ _ _ _ _
    refine PW.ret ?_
    refine retQ_ret (d := D.v (.bool ((((((Port.eqB ((portQ c part node).getD ⟨0, 0, 0, 0⟩) ((portQ c part node).getD ⟨0, 0, 0, 0⟩)) && (((portQ c part node).isSome) == ((portQ c part node).isSome))) && ((((farQ c part node).getD (0, 0)).1) == (((farQ c part node).getD (0, 0)).1))) && ((((farQ c part node).getD (0, 0)).2) == (((farQ c part node).getD (0, 0)).2))) && (((farQ c part node).isSome) == ((farQ c part node).isSome))) && true))) (ps := []) (by kernel_rfl) trivial ?_
    simp [Port.eqB_self]
end Go.Proofs.YtlcjcdgmiaakjaaDoor.Pl
