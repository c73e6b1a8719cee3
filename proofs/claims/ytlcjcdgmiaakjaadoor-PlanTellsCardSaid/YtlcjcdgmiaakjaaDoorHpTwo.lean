/- The document's own Good; slices.Max. -/
import Derived.Test.YtlcjcdgmiaakjaaDoorPlReach
namespace Go.Proofs.YtlcjcdgmiaakjaaDoor.Pl
open Go.RowKit Go.Proofs.YtlcjcdgmiaakjaaDoor.Sm Go.Proofs.YtlcjcdgmiaakjaaDoor.Dp
set_option maxHeartbeats 4000000
set_option maxRecDepth 100000
set_option linter.unusedVariables false
set_option linter.unusedSimpArgs false
def goodB (c : Config) (part : Int) : Bool := ((checkR c).1 == (0 : Int)) && isB part c.parts.length
/-- the greatest of the first i. -/
def maxTo (xs : List Int) : Nat → Int
  | 0 => xs.getD 0 default
  | i + 1 => if xs.getD i default > maxTo xs i then xs.getD i default else maxTo xs i
theorem drumlineref5_Good_pc (c : Config) (part : Int) (hp0 : c.parts.length < 1000000) (hl0 : c.links.length < 1000000) : PC Tryd.prog [] 40 [D.r (Config.d c), I part] (· = D.v (.bool (goodB c part))) := by
  refine PC.of (N := 21) Tryd.func40 rfl rfl (Nat.le_of_ble_eq_true rfl) ?_
  refine PW.seq ?_
  refine PW.region ?_
  refine PL.row 2 [1, 2] 1 (s' := { tab := [⟨1, [], I part⟩, ⟨2, [], D.p 0 0 0 0⟩], mem := [Obj.var 25 (Config.d c)] }) (p := True) (by kernel_rfl) (by kernel_rfl) (by kernel_rfl) (by kernel_rfl) (by kernel_rfl) (by trivial) ?_
  refine PL.nil ?_
  show PW _ _ _ _ _
  refine PW.seq ?_
  refine PW.region ?_
  refine PL.row 1 [1, 2, 8] 1 (s' := { tab := [⟨1, [], I part⟩, ⟨2, [], D.p 0 0 0 0⟩, ⟨8, [], D.r (Config.d c)⟩], mem := [Obj.var 25 (Config.d c)] }) (p := True) (by kernel_rfl) (by kernel_rfl) (by kernel_rfl) (by kernel_rfl) (by kernel_rfl) (by trivial) ?_
  refine PL.gcall (A := []) (f := 15) (ds := [D.r (Config.d c)]) (by kernel_rfl) (by kernel_rfl) (by kernel_rfl) (by kernel_rfl) (by kernel_rfl) rfl (D.t [I ((checkR c).1), I ((checkR c).2)]) (fun _ => drumlineref5_Check_pc c hp0 hl0) ?_
  refine PL.row 5 [1, 2, 5] 1 (s' := { tab := [⟨1, [], I part⟩, ⟨2, [], D.p 0 0 0 0⟩, ⟨5, [], I ((checkR c).1)⟩], mem := [Obj.var 25 (Config.d c)] }) (p := True) (by kernel_rfl) (by kernel_rfl) (by kernel_rfl) (by kernel_rfl) (by kernel_rfl) (by trivial) ?_
  refine PL.nil ?_
  show PW _ _ _ _ _
  refine PW.seq ?_
  refine PW.region ?_
  refine PL.row 7 [14, 15, 18] 1 (s' := { tab := [⟨14, [], D.v (.bool (((checkR c).1) == (0 : Int)))⟩, ⟨15, [(14, true)], I part⟩, ⟨18, [(14, true)], I (c.parts.length : Int)⟩], mem := [Obj.var 25 (Config.d c)] }) (p := True) (by kernel_rfl) (by kernel_rfl) (by kernel_rfl) (by kernel_rfl) (by kernel_rfl) (by trivial) ?_
  refine PL.gcall (A := [(14, true)]) (f := 61) (ds := [I part, I (c.parts.length : Int)]) (by kernel_rfl) (by kernel_rfl) (by kernel_rfl) (by kernel_rfl) (by kernel_rfl) rfl (D.v (.bool (isB part (c.parts.length : Int)))) (fun _ => drumlineref5_is_pc part (c.parts.length : Int)) ?_
  refine PL.row 2 [4] 1 (s' := { tab := [⟨4, [], D.v (.bool ((((checkR c).1) == (0 : Int)) && (isB part (c.parts.length : Int))))⟩], mem := [Obj.var 25 (Config.d c)] }) (p := True) (by kernel_rfl) (by kernel_rfl) (by kernel_rfl) (by kernel_rfl) (by kernel_rfl) (by trivial) ?_
  refine PL.nil ?_
  show PW _ _ _ _ _
  refine PW.ret ?_
  refine retQ_ret (d := D.v (.bool ((((checkR c).1) == (0 : Int)) && (isB part (c.parts.length : Int))))) (ps := []) (by kernel_rfl) trivial ?_
  rfl
theorem slices_Max_pc (xs : List Int) (hx : 1 ≤ xs.length) (hx1 : xs.length < 1000000) : PC Tryd.prog [] 55 [sl' 1 (fun x => [I x]) xs] (· = I (maxTo xs xs.length)) := by
  refine PC.of (N := 25) Tryd.func55 rfl rfl (Nat.le_of_ble_eq_true rfl) ?_
  refine PW.seq ?_
  refine PW.region ?_
  refine PL.row 1 [0] 0 (s' := { tab := [⟨0, [], sl' 1 (fun x => [I x]) xs⟩], mem := [] }) (p := True) (by kernel_rfl) (by kernel_rfl) (by kernel_rfl) (by kernel_rfl) (by kernel_rfl) (by trivial) ?_
  refine PL.nil ?_
  show PW _ _ _ _ _
  refine PW.seq ?_
  refine PW.seq ?_
  refine PW.region ?_
  refine PL.row 3 [0, 7] 0 (s' := { tab := [⟨0, [], sl' 1 (fun x => [I x]) xs⟩, ⟨7, [], D.v (.bool (decide ((xs.length : Int) < (1 : Int))))⟩], mem := [] }) (p := True) (by kernel_rfl) (by kernel_rfl) (by kernel_rfl) (by kernel_rfl) (by kernel_rfl) (by trivial) ?_
  refine PL.nil ?_
  show PW _ _ _ _ _
  refine PW.cond (z := (decide ((xs.length : Int) < (1 : Int)))) (by kernel_rfl) (fun hz0 => ?_) (fun hz0 => ?_)
  · skip
    try simp only [Bool.and_eq_true, Bool.or_eq_true, Bool.not_eq_true', Bool.and_eq_false_iff, Bool.or_eq_false_iff, Bool.not_eq_false', decide_eq_true_eq, decide_eq_false_iff_not, beq_iff_eq, bne_iff_ne, beq_eq_false_iff_ne, bne_eq_false_iff_eq, ne_eq, Bool.true_eq_false, Bool.false_eq_true, isB_true, isB_false] at hz0
    exfalso; omega
  · skip
    try simp only [Bool.and_eq_true, Bool.or_eq_true, Bool.not_eq_true', Bool.and_eq_false_iff, Bool.or_eq_false_iff, Bool.not_eq_false', decide_eq_true_eq, decide_eq_false_iff_not, beq_iff_eq, bne_iff_ne, beq_eq_false_iff_ne, bne_eq_false_iff_eq, ne_eq, Bool.true_eq_false, Bool.false_eq_true, isB_true, isB_false] at hz0
    refine PW.skip ?_
    show PW _ _ _ _ _
    refine PW.seq ?_
    refine PW.region ?_
    refine PL.row 4 [0, 3] 0 (s' := { tab := [⟨0, [], sl' 1 (fun x => [I x]) xs⟩, ⟨3, [], I (xs.getD 0 default)⟩], mem := [] }) (p := (0 ≤ (0 : Int) ∧ (0 : Int) < (xs.length : Int))) (by kernel_rfl) (by kernel_rfl) (by kernel_rfl) (by kernel_rfl) (by kernel_rfl) (by ((repeat' (first | intro _ | refine And.intro ?_ ?_)) <;> first | omega | trivial | assumption)) ?_
    refine PL.nil ?_
    show PW _ _ _ _ _
    refine PW.seq ?_
    refine PW.seq ?_
    refine PW.region ?_
    refine PL.row 1 [0, 3, 4] 0 (s' := { tab := [⟨0, [], sl' 1 (fun x => [I x]) xs⟩, ⟨3, [], I (xs.getD 0 default)⟩, ⟨4, [], I 1⟩], mem := [] }) (p := True) (by kernel_rfl) (by kernel_rfl) (by kernel_rfl) (by kernel_rfl) (by kernel_rfl) (by trivial) ?_
    refine PL.nil ?_
    show PW _ _ _ _ _
    refine PW.block ?_
    refine PW.loopR (α := Nat × Int) (fun (i, v) => { tab := [⟨0, [], sl' 1 (fun x => [I x]) xs⟩, ⟨3, [], I v⟩, ⟨4, [], I (i : Int)⟩], mem := [] }) (fun (i, v) => 1 ≤ i ∧ i ≤ xs.length ∧ v = maxTo xs i) (fun (i, v) => xs.length - i) [0, 3, 4] 0 (1, xs.getD 0 default) (s1 := { tab := [⟨0, [], sl' 1 (fun x => [I x]) xs⟩, ⟨3, [], I (xs.getD 0 default)⟩, ⟨4, [], I 1⟩], mem := [] }) (by kernel_rfl) (by kernel_rfl) ?_ ?_ ?_
    · dsimp only
      exact Rem.refl _
    · dsimp only
      exact ⟨by omega, by omega, by simp [maxTo]⟩
    rintro ⟨i, v⟩ hinv
    dsimp only at hinv
    show PW _ _ _ _ _
    refine PW.seq ?_
    refine PW.seq ?_
    refine PW.region ?_
    refine PL.row 4 [0, 3, 4, 15] 0 (s' := { tab := [⟨0, [], sl' 1 (fun x => [I x]) xs⟩, ⟨3, [], I v⟩, ⟨4, [], I (i : Int)⟩, ⟨15, [], D.v (.bool (decide ((i : Int) < (xs.length : Int))))⟩], mem := [] }) (p := True) (by kernel_rfl) (by kernel_rfl) (by kernel_rfl) (by kernel_rfl) (by kernel_rfl) (by trivial) ?_
    refine PL.nil ?_
    show PW _ _ _ _ _
    refine PW.cond (z := (decide ((i : Int) < (xs.length : Int)))) (by kernel_rfl) (fun hz1 => ?_) (fun hz1 => ?_)
    · skip
      try simp only [Bool.and_eq_true, Bool.or_eq_true, Bool.not_eq_true', Bool.and_eq_false_iff, Bool.or_eq_false_iff, Bool.not_eq_false', decide_eq_true_eq, decide_eq_false_iff_not, beq_iff_eq, bne_iff_ne, beq_eq_false_iff_ne, bne_eq_false_iff_eq, ne_eq, Bool.true_eq_false, Bool.false_eq_true, isB_true, isB_false] at hz1
      refine PW.skip ?_
      show PW _ _ _ _ _
      refine PW.seq ?_
      refine PW.block ?_
      refine PW.region ?_
      refine PL.row 7 [0, 3, 4] 0 (s' := { tab := [⟨0, [], sl' 1 (fun x => [I x]) xs⟩, ⟨3, [], I (if (xs.getD i default) > v then (xs.getD i default) else v)⟩, ⟨4, [], I (i : Int)⟩], mem := [] }) (p := (0 ≤ (i : Int) ∧ (i : Int) < (xs.length : Int))) (by kernel_rfl) (by kernel_rfl) (by kernel_rfl) (by kernel_rfl) (by kernel_rfl) (by ((repeat' (first | intro _ | refine And.intro ?_ ?_)) <;> first | omega | trivial | assumption)) ?_
      refine PL.nil ?_
      show PW _ _ _ _ _
      refine PW.region ?_
      refine PL.row 3 [0, 3, 4] 0 (s' := { tab := [⟨0, [], sl' 1 (fun x => [I x]) xs⟩, ⟨3, [], I (if (xs.getD i default) > v then (xs.getD i default) else v)⟩, ⟨4, [], I (IntKind.i64.wrap ((i : Int) + 1))⟩], mem := [] }) (p := True) (by kernel_rfl) (by kernel_rfl) (by kernel_rfl) (by kernel_rfl) (by kernel_rfl) (by trivial) ?_
      refine PL.nil ?_
      refine BackR.of (s1 := { tab := [⟨0, [], sl' 1 (fun x => [I x]) xs⟩, ⟨3, [], I (if (xs.getD i default) > v then (xs.getD i default) else v)⟩, ⟨4, [], I (IntKind.i64.wrap ((i : Int) + 1))⟩], mem := [] }) (i + 1, if (xs.getD i default) > v then (xs.getD i default) else v) (by kernel_rfl) (by kernel_rfl) ?_ ?_ ?_
      · dsimp only
        rw [wrap1 i (by omega)]
        exact Rem.refl _
      · dsimp only
        exact ⟨by omega, by omega, by rw [maxTo, ← hinv.2.2]⟩
      · dsimp only
        ((repeat' (first | intro _ | refine And.intro ?_ ?_)) <;> first | omega | trivial | assumption)
    · skip
      try simp only [Bool.and_eq_true, Bool.or_eq_true, Bool.not_eq_true', Bool.and_eq_false_iff, Bool.or_eq_false_iff, Bool.not_eq_false', decide_eq_true_eq, decide_eq_false_iff_not, beq_iff_eq, bne_iff_ne, beq_eq_false_iff_ne, bne_eq_false_iff_eq, ne_eq, Bool.true_eq_false, Bool.false_eq_true, isB_true, isB_false] at hz1
      refine PW.exit ?_
      show PW _ _ _ _ _
      refine PW.seq ?_
      refine PW.region ?_
      refine PL.row 2 [2] 0 (s' := { tab := [⟨2, [], I v⟩], mem := [] }) (p := True) (by kernel_rfl) (by kernel_rfl) (by kernel_rfl) (by kernel_rfl) (by kernel_rfl) (by trivial) ?_
      refine PL.nil ?_
      show PW _ _ _ _ _
      refine PW.ret ?_
      refine retQ_ret (d := I v) (ps := []) (by kernel_rfl) trivial ?_
      rw [hinv.2.2, show i = xs.length by omega]
end Go.Proofs.YtlcjcdgmiaakjaaDoor.Pl
