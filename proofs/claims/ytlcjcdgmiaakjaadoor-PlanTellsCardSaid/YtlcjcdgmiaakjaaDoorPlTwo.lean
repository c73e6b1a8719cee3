/- Small functions of chapters 5 and 6. -/
import Derived.Test.YtlcjcdgmiaakjaaDoorPlOne
namespace Go.Proofs.YtlcjcdgmiaakjaaDoor.Pl
open Go.RowKit Go.Proofs.YtlcjcdgmiaakjaaDoor.Sm Go.Proofs.YtlcjcdgmiaakjaaDoor.Dp
set_option maxHeartbeats 4000000
set_option maxRecDepth 100000
set_option linter.unusedVariables false
set_option linter.unusedSimpArgs false
/-- a link's other end. -/
def otherI (l : Link) (a : Int) : Int := if l.a = a then l.b else if l.b = a then l.a else -1
theorem drumlineref5_other_pc (l : Link) (a : Int) : PC Tryd.prog [] 52 [D.r (Link.d l), I a] (· = I (otherI l a)) := by
  refine PC.of (N := 17) Tryd.func52 rfl rfl (Nat.le_of_ble_eq_true rfl) ?_
  refine PW.seq ?_
  refine PW.region ?_
  refine PL.row 2 [1, 2] 1 (s' := { tab := [⟨1, [], I a⟩, ⟨2, [], D.p 0 0 0 0⟩], mem := [Obj.var 48 [I l.a, I l.b, I l.pa0, I l.pa1, I l.pb0, I l.pb1]] }) (p := True) (by kernel_rfl) (by kernel_rfl) (by kernel_rfl) (by kernel_rfl) (by kernel_rfl) (by trivial) ?_
  refine PL.nil ?_
  show PW _ _ _ _ _
  refine PW.seq ?_
  refine PW.seq ?_
  refine PW.region ?_
  refine PL.row 4 [1, 2, 8] 1 (s' := { tab := [⟨1, [], I a⟩, ⟨2, [], D.p 0 0 0 0⟩, ⟨8, [], D.v (.bool (l.a == a))⟩], mem := [Obj.var 48 [I l.a, I l.b, I l.pa0, I l.pa1, I l.pb0, I l.pb1]] }) (p := True) (by kernel_rfl) (by kernel_rfl) (by kernel_rfl) (by kernel_rfl) (by kernel_rfl) (by trivial) ?_
  refine PL.nil ?_
  show PW _ _ _ _ _
  refine PW.cond (z := (l.a == a)) (by kernel_rfl) (fun hz0 => ?_) (fun hz0 => ?_)
  · skip
    try simp only [Bool.and_eq_true, Bool.or_eq_true, Bool.not_eq_true', Bool.and_eq_false_iff, Bool.or_eq_false_iff, Bool.not_eq_false', decide_eq_true_eq, decide_eq_false_iff_not, beq_iff_eq, bne_iff_ne, beq_eq_false_iff_ne, bne_eq_false_iff_eq, ne_eq, Bool.true_eq_false, Bool.false_eq_true] at hz0
    refine PW.seq ?_
    refine PW.region ?_
    refine PL.row 3 [4] 1 (s' := { tab := [⟨4, [], I l.b⟩], mem := [Obj.var 48 [I l.a, I l.b, I l.pa0, I l.pa1, I l.pb0, I l.pb1]] }) (p := True) (by kernel_rfl) (by kernel_rfl) (by kernel_rfl) (by kernel_rfl) (by kernel_rfl) (by trivial) ?_
    refine PL.nil ?_
    show PW _ _ _ _ _
    refine PW.ret ?_
    refine retQ_ret (d := I l.b) (ps := []) (by kernel_rfl) trivial ?_
    unfold otherI; grind
  · skip
    try simp only [Bool.and_eq_true, Bool.or_eq_true, Bool.not_eq_true', Bool.and_eq_false_iff, Bool.or_eq_false_iff, Bool.not_eq_false', decide_eq_true_eq, decide_eq_false_iff_not, beq_iff_eq, bne_iff_ne, beq_eq_false_iff_ne, bne_eq_false_iff_eq, ne_eq, Bool.true_eq_false, Bool.false_eq_true] at hz0
    refine PW.skip ?_
    show PW _ _ _ _ _
    refine PW.seq ?_
    refine PW.seq ?_
    refine PW.region ?_
    refine PL.row 4 [2, 14] 1 (s' := { tab := [⟨2, [], D.p 0 0 0 0⟩, ⟨14, [], D.v (.bool (l.b == a))⟩], mem := [Obj.var 48 [I l.a, I l.b, I l.pa0, I l.pa1, I l.pb0, I l.pb1]] }) (p := True) (by kernel_rfl) (by kernel_rfl) (by kernel_rfl) (by kernel_rfl) (by kernel_rfl) (by trivial) ?_
    refine PL.nil ?_
    show PW _ _ _ _ _
    refine PW.cond (z := (l.b == a)) (by kernel_rfl) (fun hz1 => ?_) (fun hz1 => ?_)
    · skip
      try simp only [Bool.and_eq_true, Bool.or_eq_true, Bool.not_eq_true', Bool.and_eq_false_iff, Bool.or_eq_false_iff, Bool.not_eq_false', decide_eq_true_eq, decide_eq_false_iff_not, beq_iff_eq, bne_iff_ne, beq_eq_false_iff_ne, bne_eq_false_iff_eq, ne_eq, Bool.true_eq_false, Bool.false_eq_true] at hz1
      refine PW.seq ?_
      refine PW.region ?_
      refine PL.row 3 [4] 1 (s' := { tab := [⟨4, [], I l.a⟩], mem := [Obj.var 48 [I l.a, I l.b, I l.pa0, I l.pa1, I l.pb0, I l.pb1]] }) (p := True) (by kernel_rfl) (by kernel_rfl) (by kernel_rfl) (by kernel_rfl) (by kernel_rfl) (by trivial) ?_
      refine PL.nil ?_
      show PW _ _ _ _ _
      refine PW.ret ?_
      refine retQ_ret (d := I l.a) (ps := []) (by kernel_rfl) trivial ?_
      unfold otherI; grind
    · skip
      try simp only [Bool.and_eq_true, Bool.or_eq_true, Bool.not_eq_true', Bool.and_eq_false_iff, Bool.or_eq_false_iff, Bool.not_eq_false', decide_eq_true_eq, decide_eq_false_iff_not, beq_iff_eq, bne_iff_ne, beq_eq_false_iff_ne, bne_eq_false_iff_eq, ne_eq, Bool.true_eq_false, Bool.false_eq_true] at hz1
      refine PW.skip ?_
      show PW _ _ _ _ _
      refine PW.seq ?_
      refine PW.region ?_
      refine PL.row 1 [4] 1 (s' := { tab := [⟨4, [], I (-1)⟩], mem := [Obj.var 48 [I l.a, I l.b, I l.pa0, I l.pa1, I l.pb0, I l.pb1]] }) (p := True) (by kernel_rfl) (by kernel_rfl) (by kernel_rfl) (by kernel_rfl) (by kernel_rfl) (by trivial) ?_
      refine PL.nil ?_
      show PW _ _ _ _ _
      refine PW.ret ?_
      refine retQ_ret (d := I (-1)) (ps := []) (by kernel_rfl) trivial ?_
      unfold otherI; grind
end Go.Proofs.YtlcjcdgmiaakjaaDoor.Pl
