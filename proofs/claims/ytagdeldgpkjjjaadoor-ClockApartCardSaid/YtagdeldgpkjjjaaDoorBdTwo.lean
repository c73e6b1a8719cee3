/- Package bounds' outside, checkRanges. -/
import Derived.Test.YtagdeldgpkjjjaaDoorBdOne
import Derived.Test.YtagdeldgpkjjjaaDoorDpC
namespace Go.Proofs.YtagdeldgpkjjjaaDoor.Pl
open Go.RowKit Go.Proofs.YtagdeldgpkjjjaaDoor.Sm Go.Proofs.YtagdeldgpkjjjaaDoor.Dp
set_option maxHeartbeats 4000000
set_option maxRecDepth 100000
set_option linter.unusedVariables false
set_option linter.unusedSimpArgs false
/-- a fault of package bounds that says: condition k does not hold. -/
def rangeD (e : Nat → Addr) (k : Int) : D := D.i 61 (D.q [sentD e 7, I k] 0)
/-- .. that says: plan.Check found n, at at_. -/
def structD (n at_ : Int) : D := D.i 61 (D.q [D.i 62 (D.q [I n] 0), I at_] 0)
def outsideB (v a b : Int) : Bool := decide (v < a) || decide (v > b)
theorem outsideB_true (v a b : Int) : (outsideB v a b = true) = (v < a ∨ b < v) := by simp [outsideB]
theorem outsideB_false (v a b : Int) : (outsideB v a b = false) = ¬ (v < a ∨ b < v) := by rw [← outsideB_true]; simp
/-- condition k, or none (0). -/
def condD (e : Nat → Addr) (k : Int) : D := if k = 0 then D.v .nilIface else rangeD e k
theorem condD_nil (e : Nat → Addr) : condD e 0 = D.v .nilIface := rfl
theorem condD_some {e : Nat → Addr} {k : Int} (h : ¬ k = 0) : condD e k = rangeD e k := if_neg h
def rangesD (e : Nat → Addr) (c : Config) : D := if (checkP c).1 = 0 then condD e (outI c) else structD (checkP c).1 (checkP c).2
theorem bounds_outside_pc (v a b : Int) : PC Tryd.prog [] 33 [I v, I a, I b] (· = D.v (.bool (outsideB v a b))) := by
 refine PC.of (N := 15) Tryd.func33 rfl rfl (Nat.le_of_ble_eq_true rfl) ?_
 refine PW.sr [0, 1, 2] 0 trivial ?_
 refine PW.sr [6] 0 trivial ?_
 refine PW.ret ?_
 refine retQ_ret (d := D.v (.bool ((decide (v < a)) || (decide (v > b))))) (ps := []) (by kernel_rfl) trivial ?_
 rfl
theorem bounds_checkRanges_pc (e : Nat → Addr) (hA : Apart e) (c : Config) (hp0 : c.parts.length < 1000000) (hl0 : c.links.length < 1000000) : PC Tryd.prog (errG3 e) 27 [D.r (Config.d c)] (· = rangesD e c) := by
 refine PC.of (N := 60) Tryd.func27 rfl rfl (Nat.le_of_ble_eq_true rfl) ?_
 refine PW.sr [1] 1 trivial ?_
 refine PW.seq ?_
 refine PW.sg ?_
 refine PL.rw 1 [1, 6] 1 trivial ?_
 refine PL.gc (A := []) (fun _ => (plan_Check_pc e hA c hp0 hl0).weak (errG3_sub e)) ?_
 refine PL.rw 5 [1, 3, 4] 1 trivial ?_
 refine PL.nl ?_
 refine PW.sr [1, 3, 4, 11] 1 trivial ?_
 refine PW.cd (((checkP c).1) != (0 : Int)) (fun hz0 => ?_) (fun hz0 => ?_)
 ·try simp only [boolS, isB_true, isB_false, outsideB_true, outsideB_false] at hz0
  refine PW.sg ?_
  refine PL.rw 3 [4, 14] 2 trivial ?_
  refine PL.sl [4, 14] 2 ?_
  refine PL.fz 1 (t := 64) [I ((checkP c).1)] ?_
  refine PL.rw 2 [15, 16] 2 trivial ?_
  refine PL.sl [15, 16] 2 ?_
  refine PL.build (cs := [D.i 62 (D.q [I ((checkP c).1)] 0), I ((checkP c).2)]) rfl (by kernel_rfl) (by kernel_rfl) (by kernel_rfl) ?_
  refine PL.rw 1 [18] 3 trivial ?_
  refine PL.sl [18] 3 ?_
  refine PL.fz 2 (t := 66) [D.i 62 (D.q [I ((checkP c).1)] 0), I ((checkP c).2)] ?_
  refine PL.rw 2 [2] 3 trivial ?_
  refine PL.nl ?_
  refine PW.ret ?_
  refine retQ_ret (d := D.i 61 (D.q [D.i 62 (D.q [I ((checkP c).1)] 0), I ((checkP c).2)] 0)) (ps := []) (by kernel_rfl) trivial ?_
  unfold rangesD
  rw [if_neg (by omega)]
  rfl
 ·try simp only [boolS, isB_true, isB_false, outsideB_true, outsideB_false] at hz0
  refine PW.skip ?_
  show PW _ _ _ _ _
  refine PW.seq ?_
  refine PW.block ?_
  refine PW.sg ?_
  refine PL.rw 2 [1, 22] 1 trivial ?_
  refine PL.gc (G := (errG3 e)) (A := []) (fun _ => PC.more (bounds_outside_pc c.cycle 1000 1000000)) ?_
  refine PL.rw 1 [1, 20] 1 trivial ?_
  refine PL.nl ?_
  refine PW.cd (outsideB c.cycle 1000 1000000) (fun hz1 => ?_) (fun hz1 => ?_)
  ·try simp only [boolS, isB_true, isB_false, outsideB_true, outsideB_false] at hz1
   refine PW.sg ?_
   refine PL.rw 3 [26] 2 trivial ?_
   refine PL.sl [26] 2 ?_
   refine PL.fz 1 (t := 66) [sentD e 7, I 1] ?_
   refine PL.rw 2 [2] 2 trivial ?_
   refine PL.nl ?_
   refine PW.ret ?_
   refine retQ_ret (d := D.i 61 (D.q [sentD e 7, I 1] 0)) (ps := []) (by kernel_rfl) trivial ?_
   have ho : outI c = 1 := by unfold outI; grind
   unfold rangesD
   rw [if_pos (by omega), ho]
   rfl
  ·try simp only [boolS, isB_true, isB_false, outsideB_true, outsideB_false] at hz1
   refine PW.sg ?_
   refine PL.rw 2 [1, 30] 1 trivial ?_
   refine PL.gc (G := (errG3 e)) (A := []) (fun _ => PC.more (bounds_outside_pc c.drift 0 500)) ?_
   refine PL.rw 1 [1, 28] 1 trivial ?_
   refine PL.nl ?_
   refine PW.cd (outsideB c.drift 0 500) (fun hz2 => ?_) (fun hz2 => ?_)
   ·try simp only [boolS, isB_true, isB_false, outsideB_true, outsideB_false] at hz2
    refine PW.sg ?_
    refine PL.rw 3 [34] 2 trivial ?_
    refine PL.sl [34] 2 ?_
    refine PL.fz 1 (t := 66) [sentD e 7, I 2] ?_
    refine PL.rw 2 [2] 2 trivial ?_
    refine PL.nl ?_
    refine PW.ret ?_
    refine retQ_ret (d := D.i 61 (D.q [sentD e 7, I 2] 0)) (ps := []) (by kernel_rfl) trivial ?_
    have ho : outI c = 2 := by unfold outI; grind
    unfold rangesD
    rw [if_pos (by omega), ho]
    rfl
   ·try simp only [boolS, isB_true, isB_false, outsideB_true, outsideB_false] at hz2
    refine PW.sg ?_
    refine PL.rw 2 [1, 38] 1 trivial ?_
    refine PL.gc (G := (errG3 e)) (A := []) (fun _ => PC.more (bounds_outside_pc c.rate 0 400000)) ?_
    refine PL.rw 1 [1, 36] 1 trivial ?_
    refine PL.nl ?_
    refine PW.cd (outsideB c.rate 0 400000) (fun hz3 => ?_) (fun hz3 => ?_)
    ·try simp only [boolS, isB_true, isB_false, outsideB_true, outsideB_false] at hz3
     refine PW.sg ?_
     refine PL.rw 3 [42] 2 trivial ?_
     refine PL.sl [42] 2 ?_
     refine PL.fz 1 (t := 66) [sentD e 7, I 3] ?_
     refine PL.rw 2 [2] 2 trivial ?_
     refine PL.nl ?_
     refine PW.ret ?_
     refine retQ_ret (d := D.i 61 (D.q [sentD e 7, I 3] 0)) (ps := []) (by kernel_rfl) trivial ?_
     have ho : outI c = 3 := by unfold outI; grind
     unfold rangesD
     rw [if_pos (by omega), ho]
     rfl
    ·try simp only [boolS, isB_true, isB_false, outsideB_true, outsideB_false] at hz3
     refine PW.sg ?_
     refine PL.rw 2 [1, 46] 1 trivial ?_
     refine PL.gc (G := (errG3 e)) (A := []) (fun _ => PC.more (bounds_outside_pc c.ages 1 200)) ?_
     refine PL.rw 1 [1, 44] 1 trivial ?_
     refine PL.nl ?_
     refine PW.cd (outsideB c.ages 1 200) (fun hz4 => ?_) (fun hz4 => ?_)
     ·try simp only [boolS, isB_true, isB_false, outsideB_true, outsideB_false] at hz4
      refine PW.sg ?_
      refine PL.rw 3 [50] 2 trivial ?_
      refine PL.sl [50] 2 ?_
      refine PL.fz 1 (t := 66) [sentD e 7, I 4] ?_
      refine PL.rw 2 [2] 2 trivial ?_
      refine PL.nl ?_
      refine PW.ret ?_
      refine retQ_ret (d := D.i 61 (D.q [sentD e 7, I 4] 0)) (ps := []) (by kernel_rfl) trivial ?_
      have ho : outI c = 4 := by unfold outI; grind
      unfold rangesD
      rw [if_pos (by omega), ho]
      rfl
     ·try simp only [boolS, isB_true, isB_false, outsideB_true, outsideB_false] at hz4
      refine PW.sg ?_
      refine PL.rw 2 [54] 1 trivial ?_
      refine PL.gc (G := (errG3 e)) (A := []) (fun _ => PC.more (bounds_outside_pc c.lost 0 20)) ?_
      refine PL.rw 1 [52] 1 trivial ?_
      refine PL.nl ?_
      refine PW.cd (outsideB c.lost 0 20) (fun hz5 => ?_) (fun hz5 => ?_)
      ·try simp only [boolS, isB_true, isB_false, outsideB_true, outsideB_false] at hz5
       refine PW.sg ?_
       refine PL.rw 3 [58] 2 trivial ?_
       refine PL.sl [58] 2 ?_
       refine PL.fz 1 (t := 66) [sentD e 7, I 5] ?_
       refine PL.rw 2 [2] 2 trivial ?_
       refine PL.nl ?_
       refine PW.ret ?_
       refine retQ_ret (d := D.i 61 (D.q [sentD e 7, I 5] 0)) (ps := []) (by kernel_rfl) trivial ?_
       have ho : outI c = 5 := by unfold outI; grind
       unfold rangesD
       rw [if_pos (by omega), ho]
       rfl
      ·try simp only [boolS, isB_true, isB_false, outsideB_true, outsideB_false] at hz5
       refine PW.skip ?_
       show PW _ _ _ _ _
       refine PW.sr [2] 1 trivial ?_
       refine PW.ret ?_
       refine retQ_ret (d := D.v (.nilIface)) (ps := []) (by kernel_rfl) trivial ?_
       have ho : outI c = 0 := by unfold outI; grind
       unfold rangesD
       rw [if_pos (by omega), ho]
       rfl
end Go.Proofs.YtagdeldgpkjjjaaDoor.Pl
