/- Package bounds' outside, checkRanges. -/
import Derived.Test.YtleflkgdbagmnaaGreatDoorBdOne
import Derived.Test.YtleflkgdbagmnaaGreatDoorDpDiv
namespace Go.Proofs.YtleflkgdbagmnaaGreatDoor.Pl
open Go.RowKit Go.Proofs.YtleflkgdbagmnaaGreatDoor.Sm Go.Proofs.YtleflkgdbagmnaaGreatDoor.Dp
set_option maxHeartbeats 4000000
set_option maxRecDepth 100000
set_option linter.unusedVariables false
set_option linter.unusedSimpArgs false
/-- a fault of package bounds that says: condition k does not hold. -/
def rangeD (e : Nat → Addr) (k : Int) : D := D.i 60 (D.q [sentD e 7, I k] 0)
/-- .. that says: plan.Check found n, at at_. -/
def structD (n at_ : Int) : D := D.i 60 (D.q [D.i 61 (D.q [I n] 0), I at_] 0)
def outsideB (v a b : Int) : Bool := decide (v < a) || decide (v > b)
theorem outsideB_true (v a b : Int) : (outsideB v a b = true) = (v < a ∨ b < v) := by simp [outsideB]
theorem outsideB_false (v a b : Int) : (outsideB v a b = false) = ¬ (v < a ∨ b < v) := by rw [← outsideB_true]; simp
/-- condition k, or none (0). -/
def condD (e : Nat → Addr) (k : Int) : D := if k = 0 then D.v .nilIface else rangeD e k
theorem condD_some {e : Nat → Addr} {k : Int} (h : ¬ k = 0) : condD e k = rangeD e k := if_neg h
def rangesD (e : Nat → Addr) (c : Config) : D := if (checkP c).1 = 0 then condD e (outI c) else structD (checkP c).1 (checkP c).2
theorem bounds_outside_pc (v a b : Int) : PC Tryz.prog [] 55 [I v, I a, I b] (· = D.v (.bool (outsideB v a b))) := by
  refine PC.of (N := 15) Tryz.func55 rfl rfl (Nat.le_of_ble_eq_true rfl) ?_
  refine PW.seq ?_
  refine PW.region ?_
  refine PL.rowK 1 [0, 1, 2] 0 (s' := { tab := [⟨0, [], I v⟩, ⟨1, [], I a⟩, ⟨2, [], I b⟩], mem := [] }) (p := True) (by kernel_rfl) (by trivial) ?_
  refine PL.nil ?_
  show PW _ _ _ _ _
  refine PW.seq ?_
  refine PW.region ?_
  refine PL.rowK 9 [6] 0 (s' := { tab := [⟨6, [], D.v (.bool ((decide (v < a)) || (decide (v > b))))⟩], mem := [] }) (p := True) (by kernel_rfl) (by trivial) ?_
  refine PL.nil ?_
  show PW _ _ _ _ _
  refine PW.ret ?_
  refine retQ_ret (d := D.v (.bool ((decide (v < a)) || (decide (v > b))))) (ps := []) (by kernel_rfl) trivial ?_
  rfl
theorem bounds_checkRanges_pc (e : Nat → Addr) (hA : Apart e) (c : Config) (hp0 : c.parts.length < 1000000) (hl0 : c.links.length < 1000000) : PC Tryz.prog (errG3 e) 42 [D.r (Config.d c)] (· = rangesD e c) := by
  refine PC.of (N := 60) Tryz.func42 rfl rfl (Nat.le_of_ble_eq_true rfl) ?_
  refine PW.seq ?_
  refine PW.region ?_
  refine PL.rowK 2 [1] 1 (s' := { tab := [⟨1, [], D.p 0 0 0 0⟩], mem := [Obj.var 25 (Config.d c)], gl := (errG3 e) }) (p := True) (by kernel_rfl) (by trivial) ?_
  refine PL.nil ?_
  show PW _ _ _ _ _
  refine PW.seq ?_
  refine PW.seq ?_
  refine PW.region ?_
  refine PL.rowK 1 [1, 6] 1 (s' := { tab := [⟨1, [], D.p 0 0 0 0⟩, ⟨6, [], D.r (Config.d c)⟩], mem := [Obj.var 25 (Config.d c)], gl := (errG3 e) }) (p := True) (by kernel_rfl) (by trivial) ?_
  refine PL.gcall (A := []) (f := 54) (ds := [D.r (Config.d c)]) (by kernel_rfl) (by kernel_rfl) (by kernel_rfl) (by kernel_rfl) (by kernel_rfl) rfl (D.t [I ((checkP c).1), I ((checkP c).2)]) (fun _ => (plan_Check_pc e hA c hp0 hl0).weak (errG3_sub e)) ?_
  refine PL.rowK 5 [1, 3, 4] 1 (s' := { tab := [⟨1, [], D.p 0 0 0 0⟩, ⟨3, [], I ((checkP c).1)⟩, ⟨4, [], I ((checkP c).2)⟩], mem := [Obj.var 25 (Config.d c)], gl := (errG3 e) }) (p := True) (by kernel_rfl) (by trivial) ?_
  refine PL.nil ?_
  show PW _ _ _ _ _
  refine PW.seq ?_
  refine PW.region ?_
  refine PL.rowK 2 [1, 3, 4, 11] 1 (s' := { tab := [⟨1, [], D.p 0 0 0 0⟩, ⟨3, [], I ((checkP c).1)⟩, ⟨4, [], I ((checkP c).2)⟩, ⟨11, [], D.v (.bool (((checkP c).1) != (0 : Int)))⟩], mem := [Obj.var 25 (Config.d c)], gl := (errG3 e) }) (p := True) (by kernel_rfl) (by trivial) ?_
  refine PL.nil ?_
  show PW _ _ _ _ _
  refine PW.cond (z := (((checkP c).1) != (0 : Int))) (by kernel_rfl) (fun hz0 => ?_) (fun hz0 => ?_)
  · skip
    try simp only [boolS, isB_true, isB_false, outsideB_true, outsideB_false] at hz0
    refine PW.seq ?_
    refine PW.region ?_
    refine PL.rowK 3 [4, 14] 2 (s' := { tab := [⟨4, [], I ((checkP c).2)⟩, ⟨14, [], D.p 1 0 0 0⟩], mem := [Obj.var 25 (Config.d c), Obj.var 63 [I ((checkP c).1)]], gl := (errG3 e) }) (p := True) (by kernel_rfl) (by trivial) ?_
    refine PL.row 0 [4, 14] 2 (s' := { tab := [⟨4, [], I ((checkP c).2)⟩, ⟨14, [], D.p 1 0 0 0⟩], mem := [Obj.var 25 (Config.d c), Obj.var 63 [I ((checkP c).1)]], gl := (errG3 e) }) (p := True) (by kernel_rfl) (by kernel_rfl) (by kernel_rfl) (by kernel_rfl) (by kernel_rfl) trivial ?_
    refine PL.frz 1 (t := 63) (cs := [I ((checkP c).1)]) (s' := { tab := [⟨4, [], I ((checkP c).2)⟩, ⟨14, [], D.q [I ((checkP c).1)] 0⟩], mem := [Obj.var 25 (Config.d c), Obj.dead], gl := (errG3 e) }) (by kernel_rfl) (by kernel_rfl) (Nat.zero_le _) (by kernel_rfl) ?_
    refine PL.rowK 2 [15, 16] 2 (s' := { tab := [⟨15, [], D.i 61 (D.q [I ((checkP c).1)] 0)⟩, ⟨16, [], I ((checkP c).2)⟩], mem := [Obj.var 25 (Config.d c), Obj.dead], gl := (errG3 e) }) (p := True) (by kernel_rfl) (by trivial) ?_
    refine PL.row 0 [15, 16] 2 (s' := { tab := [⟨15, [], D.i 61 (D.q [I ((checkP c).1)] 0)⟩, ⟨16, [], I ((checkP c).2)⟩], mem := [Obj.var 25 (Config.d c), Obj.dead], gl := (errG3 e) }) (p := True) (by kernel_rfl) (by kernel_rfl) (by kernel_rfl) (by kernel_rfl) (by kernel_rfl) trivial ?_
    refine PL.build (cs := [D.i 61 (D.q [I ((checkP c).1)] 0), I ((checkP c).2)]) rfl (by kernel_rfl) (by kernel_rfl) (by kernel_rfl) ?_
    refine PL.rowK 1 [18] 3 (s' := { tab := [⟨18, [], D.p 2 0 0 0⟩], mem := [Obj.var 25 (Config.d c), Obj.dead, Obj.var 65 [D.i 61 (D.q [I ((checkP c).1)] 0), I ((checkP c).2)]], gl := (errG3 e) }) (p := True) (by kernel_rfl) (by trivial) ?_
    refine PL.row 0 [18] 3 (s' := { tab := [⟨18, [], D.p 2 0 0 0⟩], mem := [Obj.var 25 (Config.d c), Obj.dead, Obj.var 65 [D.i 61 (D.q [I ((checkP c).1)] 0), I ((checkP c).2)]], gl := (errG3 e) }) (p := True) (by kernel_rfl) (by kernel_rfl) (by kernel_rfl) (by kernel_rfl) (by kernel_rfl) trivial ?_
    refine PL.frz 2 (t := 65) (cs := [D.i 61 (D.q [I ((checkP c).1)] 0), I ((checkP c).2)]) (s' := { tab := [⟨18, [], D.q [D.i 61 (D.q [I ((checkP c).1)] 0), I ((checkP c).2)] 0⟩], mem := [Obj.var 25 (Config.d c), Obj.dead, Obj.dead], gl := (errG3 e) }) (by kernel_rfl) (by kernel_rfl) (Nat.zero_le _) (by kernel_rfl) ?_
    refine PL.rowK 2 [2] 3 (s' := { tab := [⟨2, [], D.i 60 (D.q [D.i 61 (D.q [I ((checkP c).1)] 0), I ((checkP c).2)] 0)⟩], mem := [Obj.var 25 (Config.d c), Obj.dead, Obj.dead], gl := (errG3 e) }) (p := True) (by kernel_rfl) (by trivial) ?_
    refine PL.nil ?_
    show PW _ _ _ _ _
    refine PW.ret ?_
    refine retQ_ret (d := D.i 60 (D.q [D.i 61 (D.q [I ((checkP c).1)] 0), I ((checkP c).2)] 0)) (ps := []) (by kernel_rfl) trivial ?_
    unfold rangesD
    rw [if_neg (by omega)]
    rfl
  · skip
    try simp only [boolS, isB_true, isB_false, outsideB_true, outsideB_false] at hz0
    refine PW.skip ?_
    show PW _ _ _ _ _
    refine PW.seq ?_
    refine PW.block ?_
    refine PW.seq ?_
    refine PW.region ?_
    refine PL.rowK 2 [1, 22] 1 (s' := { tab := [⟨1, [], D.p 0 0 0 0⟩, ⟨22, [], I c.cycle⟩], mem := [Obj.var 25 (Config.d c)], gl := (errG3 e) }) (p := True) (by kernel_rfl) (by trivial) ?_
    refine PL.gcall (A := []) (f := 55) (ds := [I c.cycle, I 1000, I 1000000]) (by kernel_rfl) (by kernel_rfl) (by kernel_rfl) (by kernel_rfl) (by kernel_rfl) rfl (D.v (.bool (outsideB c.cycle 1000 1000000))) (fun _ => PC.more (bounds_outside_pc c.cycle 1000 1000000)) ?_
    refine PL.rowK 1 [1, 20] 1 (s' := { tab := [⟨1, [], D.p 0 0 0 0⟩, ⟨20, [], D.v (.bool (outsideB c.cycle 1000 1000000))⟩], mem := [Obj.var 25 (Config.d c)], gl := (errG3 e) }) (p := True) (by kernel_rfl) (by trivial) ?_
    refine PL.nil ?_
    show PW _ _ _ _ _
    refine PW.cond (z := (outsideB c.cycle 1000 1000000)) (by kernel_rfl) (fun hz1 => ?_) (fun hz1 => ?_)
    · skip
      try simp only [boolS, isB_true, isB_false, outsideB_true, outsideB_false] at hz1
      refine PW.seq ?_
      refine PW.region ?_
      refine PL.rowK 3 [26] 2 (s' := { tab := [⟨26, [], D.p 1 0 0 0⟩], mem := [Obj.var 25 (Config.d c), Obj.var 65 [sentD e 7, I 1]], gl := (errG3 e) }) (p := True) (by kernel_rfl) (by trivial) ?_
      refine PL.row 0 [26] 2 (s' := { tab := [⟨26, [], D.p 1 0 0 0⟩], mem := [Obj.var 25 (Config.d c), Obj.var 65 [sentD e 7, I 1]], gl := (errG3 e) }) (p := True) (by kernel_rfl) (by kernel_rfl) (by kernel_rfl) (by kernel_rfl) (by kernel_rfl) trivial ?_
      refine PL.frz 1 (t := 65) (cs := [sentD e 7, I 1]) (s' := { tab := [⟨26, [], D.q [sentD e 7, I 1] 0⟩], mem := [Obj.var 25 (Config.d c), Obj.dead], gl := (errG3 e) }) (by kernel_rfl) (by kernel_rfl) (Nat.zero_le _) (by kernel_rfl) ?_
      refine PL.rowK 2 [2] 2 (s' := { tab := [⟨2, [], D.i 60 (D.q [sentD e 7, I 1] 0)⟩], mem := [Obj.var 25 (Config.d c), Obj.dead], gl := (errG3 e) }) (p := True) (by kernel_rfl) (by trivial) ?_
      refine PL.nil ?_
      show PW _ _ _ _ _
      refine PW.ret ?_
      refine retQ_ret (d := D.i 60 (D.q [sentD e 7, I 1] 0)) (ps := []) (by kernel_rfl) trivial ?_
      have ho : outI c = 1 := by unfold outI; grind
      unfold rangesD
      rw [if_pos (by omega), ho]
      rfl
    · skip
      try simp only [boolS, isB_true, isB_false, outsideB_true, outsideB_false] at hz1
      refine PW.seq ?_
      refine PW.region ?_
      refine PL.rowK 2 [1, 30] 1 (s' := { tab := [⟨1, [], D.p 0 0 0 0⟩, ⟨30, [], I c.drift⟩], mem := [Obj.var 25 (Config.d c)], gl := (errG3 e) }) (p := True) (by kernel_rfl) (by trivial) ?_
      refine PL.gcall (A := []) (f := 55) (ds := [I c.drift, I 0, I 500]) (by kernel_rfl) (by kernel_rfl) (by kernel_rfl) (by kernel_rfl) (by kernel_rfl) rfl (D.v (.bool (outsideB c.drift 0 500))) (fun _ => PC.more (bounds_outside_pc c.drift 0 500)) ?_
      refine PL.rowK 1 [1, 28] 1 (s' := { tab := [⟨1, [], D.p 0 0 0 0⟩, ⟨28, [], D.v (.bool (outsideB c.drift 0 500))⟩], mem := [Obj.var 25 (Config.d c)], gl := (errG3 e) }) (p := True) (by kernel_rfl) (by trivial) ?_
      refine PL.nil ?_
      show PW _ _ _ _ _
      refine PW.cond (z := (outsideB c.drift 0 500)) (by kernel_rfl) (fun hz2 => ?_) (fun hz2 => ?_)
      · skip
        try simp only [boolS, isB_true, isB_false, outsideB_true, outsideB_false] at hz2
        refine PW.seq ?_
        refine PW.region ?_
        refine PL.rowK 3 [34] 2 (s' := { tab := [⟨34, [], D.p 1 0 0 0⟩], mem := [Obj.var 25 (Config.d c), Obj.var 65 [sentD e 7, I 2]], gl := (errG3 e) }) (p := True) (by kernel_rfl) (by trivial) ?_
        refine PL.row 0 [34] 2 (s' := { tab := [⟨34, [], D.p 1 0 0 0⟩], mem := [Obj.var 25 (Config.d c), Obj.var 65 [sentD e 7, I 2]], gl := (errG3 e) }) (p := True) (by kernel_rfl) (by kernel_rfl) (by kernel_rfl) (by kernel_rfl) (by kernel_rfl) trivial ?_
        refine PL.frz 1 (t := 65) (cs := [sentD e 7, I 2]) (s' := { tab := [⟨34, [], D.q [sentD e 7, I 2] 0⟩], mem := [Obj.var 25 (Config.d c), Obj.dead], gl := (errG3 e) }) (by kernel_rfl) (by kernel_rfl) (Nat.zero_le _) (by kernel_rfl) ?_
        refine PL.rowK 2 [2] 2 (s' := { tab := [⟨2, [], D.i 60 (D.q [sentD e 7, I 2] 0)⟩], mem := [Obj.var 25 (Config.d c), Obj.dead], gl := (errG3 e) }) (p := True) (by kernel_rfl) (by trivial) ?_
        refine PL.nil ?_
        show PW _ _ _ _ _
        refine PW.ret ?_
        refine retQ_ret (d := D.i 60 (D.q [sentD e 7, I 2] 0)) (ps := []) (by kernel_rfl) trivial ?_
        have ho : outI c = 2 := by unfold outI; grind
        unfold rangesD
        rw [if_pos (by omega), ho]
        rfl
      · skip
        try simp only [boolS, isB_true, isB_false, outsideB_true, outsideB_false] at hz2
        refine PW.seq ?_
        refine PW.region ?_
        refine PL.rowK 2 [1, 38] 1 (s' := { tab := [⟨1, [], D.p 0 0 0 0⟩, ⟨38, [], I c.rate⟩], mem := [Obj.var 25 (Config.d c)], gl := (errG3 e) }) (p := True) (by kernel_rfl) (by trivial) ?_
        refine PL.gcall (A := []) (f := 55) (ds := [I c.rate, I 0, I 400000]) (by kernel_rfl) (by kernel_rfl) (by kernel_rfl) (by kernel_rfl) (by kernel_rfl) rfl (D.v (.bool (outsideB c.rate 0 400000))) (fun _ => PC.more (bounds_outside_pc c.rate 0 400000)) ?_
        refine PL.rowK 1 [1, 36] 1 (s' := { tab := [⟨1, [], D.p 0 0 0 0⟩, ⟨36, [], D.v (.bool (outsideB c.rate 0 400000))⟩], mem := [Obj.var 25 (Config.d c)], gl := (errG3 e) }) (p := True) (by kernel_rfl) (by trivial) ?_
        refine PL.nil ?_
        show PW _ _ _ _ _
        refine PW.cond (z := (outsideB c.rate 0 400000)) (by kernel_rfl) (fun hz3 => ?_) (fun hz3 => ?_)
        · skip
          try simp only [boolS, isB_true, isB_false, outsideB_true, outsideB_false] at hz3
          refine PW.seq ?_
          refine PW.region ?_
          refine PL.rowK 3 [42] 2 (s' := { tab := [⟨42, [], D.p 1 0 0 0⟩], mem := [Obj.var 25 (Config.d c), Obj.var 65 [sentD e 7, I 3]], gl := (errG3 e) }) (p := True) (by kernel_rfl) (by trivial) ?_
          refine PL.row 0 [42] 2 (s' := { tab := [⟨42, [], D.p 1 0 0 0⟩], mem := [Obj.var 25 (Config.d c), Obj.var 65 [sentD e 7, I 3]], gl := (errG3 e) }) (p := True) (by kernel_rfl) (by kernel_rfl) (by kernel_rfl) (by kernel_rfl) (by kernel_rfl) trivial ?_
          refine PL.frz 1 (t := 65) (cs := [sentD e 7, I 3]) (s' := { tab := [⟨42, [], D.q [sentD e 7, I 3] 0⟩], mem := [Obj.var 25 (Config.d c), Obj.dead], gl := (errG3 e) }) (by kernel_rfl) (by kernel_rfl) (Nat.zero_le _) (by kernel_rfl) ?_
          refine PL.rowK 2 [2] 2 (s' := { tab := [⟨2, [], D.i 60 (D.q [sentD e 7, I 3] 0)⟩], mem := [Obj.var 25 (Config.d c), Obj.dead], gl := (errG3 e) }) (p := True) (by kernel_rfl) (by trivial) ?_
          refine PL.nil ?_
          show PW _ _ _ _ _
          refine PW.ret ?_
          refine retQ_ret (d := D.i 60 (D.q [sentD e 7, I 3] 0)) (ps := []) (by kernel_rfl) trivial ?_
          have ho : outI c = 3 := by unfold outI; grind
          unfold rangesD
          rw [if_pos (by omega), ho]
          rfl
        · skip
          try simp only [boolS, isB_true, isB_false, outsideB_true, outsideB_false] at hz3
          refine PW.seq ?_
          refine PW.region ?_
          refine PL.rowK 2 [1, 46] 1 (s' := { tab := [⟨1, [], D.p 0 0 0 0⟩, ⟨46, [], I c.ages⟩], mem := [Obj.var 25 (Config.d c)], gl := (errG3 e) }) (p := True) (by kernel_rfl) (by trivial) ?_
          refine PL.gcall (A := []) (f := 55) (ds := [I c.ages, I 1, I 200]) (by kernel_rfl) (by kernel_rfl) (by kernel_rfl) (by kernel_rfl) (by kernel_rfl) rfl (D.v (.bool (outsideB c.ages 1 200))) (fun _ => PC.more (bounds_outside_pc c.ages 1 200)) ?_
          refine PL.rowK 1 [1, 44] 1 (s' := { tab := [⟨1, [], D.p 0 0 0 0⟩, ⟨44, [], D.v (.bool (outsideB c.ages 1 200))⟩], mem := [Obj.var 25 (Config.d c)], gl := (errG3 e) }) (p := True) (by kernel_rfl) (by trivial) ?_
          refine PL.nil ?_
          show PW _ _ _ _ _
          refine PW.cond (z := (outsideB c.ages 1 200)) (by kernel_rfl) (fun hz4 => ?_) (fun hz4 => ?_)
          · skip
            try simp only [boolS, isB_true, isB_false, outsideB_true, outsideB_false] at hz4
            refine PW.seq ?_
            refine PW.region ?_
            refine PL.rowK 3 [50] 2 (s' := { tab := [⟨50, [], D.p 1 0 0 0⟩], mem := [Obj.var 25 (Config.d c), Obj.var 65 [sentD e 7, I 4]], gl := (errG3 e) }) (p := True) (by kernel_rfl) (by trivial) ?_
            refine PL.row 0 [50] 2 (s' := { tab := [⟨50, [], D.p 1 0 0 0⟩], mem := [Obj.var 25 (Config.d c), Obj.var 65 [sentD e 7, I 4]], gl := (errG3 e) }) (p := True) (by kernel_rfl) (by kernel_rfl) (by kernel_rfl) (by kernel_rfl) (by kernel_rfl) trivial ?_
            refine PL.frz 1 (t := 65) (cs := [sentD e 7, I 4]) (s' := { tab := [⟨50, [], D.q [sentD e 7, I 4] 0⟩], mem := [Obj.var 25 (Config.d c), Obj.dead], gl := (errG3 e) }) (by kernel_rfl) (by kernel_rfl) (Nat.zero_le _) (by kernel_rfl) ?_
            refine PL.rowK 2 [2] 2 (s' := { tab := [⟨2, [], D.i 60 (D.q [sentD e 7, I 4] 0)⟩], mem := [Obj.var 25 (Config.d c), Obj.dead], gl := (errG3 e) }) (p := True) (by kernel_rfl) (by trivial) ?_
            refine PL.nil ?_
            show PW _ _ _ _ _
            refine PW.ret ?_
            refine retQ_ret (d := D.i 60 (D.q [sentD e 7, I 4] 0)) (ps := []) (by kernel_rfl) trivial ?_
            have ho : outI c = 4 := by unfold outI; grind
            unfold rangesD
            rw [if_pos (by omega), ho]
            rfl
          · skip
            try simp only [boolS, isB_true, isB_false, outsideB_true, outsideB_false] at hz4
            refine PW.seq ?_
            refine PW.region ?_
            refine PL.rowK 2 [54] 1 (s' := { tab := [⟨54, [], I c.lost⟩], mem := [Obj.var 25 (Config.d c)], gl := (errG3 e) }) (p := True) (by kernel_rfl) (by trivial) ?_
            refine PL.gcall (A := []) (f := 55) (ds := [I c.lost, I 0, I 20]) (by kernel_rfl) (by kernel_rfl) (by kernel_rfl) (by kernel_rfl) (by kernel_rfl) rfl (D.v (.bool (outsideB c.lost 0 20))) (fun _ => PC.more (bounds_outside_pc c.lost 0 20)) ?_
            refine PL.rowK 1 [52] 1 (s' := { tab := [⟨52, [], D.v (.bool (outsideB c.lost 0 20))⟩], mem := [Obj.var 25 (Config.d c)], gl := (errG3 e) }) (p := True) (by kernel_rfl) (by trivial) ?_
            refine PL.nil ?_
            show PW _ _ _ _ _
            refine PW.cond (z := (outsideB c.lost 0 20)) (by kernel_rfl) (fun hz5 => ?_) (fun hz5 => ?_)
            · skip
              try simp only [boolS, isB_true, isB_false, outsideB_true, outsideB_false] at hz5
              refine PW.seq ?_
              refine PW.region ?_
              refine PL.rowK 3 [58] 2 (s' := { tab := [⟨58, [], D.p 1 0 0 0⟩], mem := [Obj.var 25 (Config.d c), Obj.var 65 [sentD e 7, I 5]], gl := (errG3 e) }) (p := True) (by kernel_rfl) (by trivial) ?_
              refine PL.row 0 [58] 2 (s' := { tab := [⟨58, [], D.p 1 0 0 0⟩], mem := [Obj.var 25 (Config.d c), Obj.var 65 [sentD e 7, I 5]], gl := (errG3 e) }) (p := True) (by kernel_rfl) (by kernel_rfl) (by kernel_rfl) (by kernel_rfl) (by kernel_rfl) trivial ?_
              refine PL.frz 1 (t := 65) (cs := [sentD e 7, I 5]) (s' := { tab := [⟨58, [], D.q [sentD e 7, I 5] 0⟩], mem := [Obj.var 25 (Config.d c), Obj.dead], gl := (errG3 e) }) (by kernel_rfl) (by kernel_rfl) (Nat.zero_le _) (by kernel_rfl) ?_
              refine PL.rowK 2 [2] 2 (s' := { tab := [⟨2, [], D.i 60 (D.q [sentD e 7, I 5] 0)⟩], mem := [Obj.var 25 (Config.d c), Obj.dead], gl := (errG3 e) }) (p := True) (by kernel_rfl) (by trivial) ?_
              refine PL.nil ?_
              show PW _ _ _ _ _
              refine PW.ret ?_
              refine retQ_ret (d := D.i 60 (D.q [sentD e 7, I 5] 0)) (ps := []) (by kernel_rfl) trivial ?_
              have ho : outI c = 5 := by unfold outI; grind
              unfold rangesD
              rw [if_pos (by omega), ho]
              rfl
            · skip
              try simp only [boolS, isB_true, isB_false, outsideB_true, outsideB_false] at hz5
              refine PW.skip ?_
              show PW _ _ _ _ _
              refine PW.seq ?_
              refine PW.region ?_
              refine PL.rowK 1 [2] 1 (s' := { tab := [⟨2, [], D.v (.nilIface)⟩], mem := [Obj.var 25 (Config.d c)], gl := (errG3 e) }) (p := True) (by kernel_rfl) (by trivial) ?_
              refine PL.nil ?_
              show PW _ _ _ _ _
              refine PW.ret ?_
              refine retQ_ret (d := D.v (.nilIface)) (ps := []) (by kernel_rfl) trivial ?_
              have ho : outI c = 0 := by unfold outI; grind
              unfold rangesD
              rw [if_pos (by omega), ho]
              rfl
end Go.Proofs.YtleflkgdbagmnaaGreatDoor.Pl
