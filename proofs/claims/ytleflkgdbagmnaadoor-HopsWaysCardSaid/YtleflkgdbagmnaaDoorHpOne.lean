/- Package hops' right, known, across. -/
import Derived.Test.YtleflkgdbagmnaaDoorPlReach
namespace Go.Proofs.YtleflkgdbagmnaaDoor.Pl
open Go.RowKit Go.Proofs.YtleflkgdbagmnaaDoor.Sm Go.Proofs.YtleflkgdbagmnaaDoor.Dp
set_option maxHeartbeats 4000000
set_option maxRecDepth 100000
set_option linter.unusedVariables false
set_option linter.unusedSimpArgs false
def rightB (c : Config) : Bool := (checkP c).1 == (0 : Int)
def knownB (c : Config) (a b : Int) : Bool := decide (a ≥ 0) && decide (a < (c.parts.length : Int)) && decide (b ≥ 0) && decide (b < (c.parts.length : Int)) && rightB c
def acrossI (l : Link) (a : Int) : Int := if l.a = a then l.b else l.a
theorem hops_right_pc (e : Nat → Addr) (hA : Apart e) (c : Config) (hp0 : c.parts.length < 1000000) (hl0 : c.links.length < 1000000) : PC Tryd.prog (errG2 e) 26 [D.r (Config.d c)] (· = D.v (.bool (rightB c))) := by
 refine PC.of (N := 12) Tryd.func26 rfl rfl (Nat.le_of_ble_eq_true rfl) ?_
 refine PW.sr [1] 1 trivial ?_
 refine PW.sg ?_
 refine PL.rw 1 [6] 1 trivial ?_
 refine PL.gc (A := []) (fun _ => plan_Check_pc e hA c hp0 hl0) ?_
 refine PL.rw 5 [3] 1 trivial ?_
 refine PL.nl ?_
 refine PW.sr [2] 1 trivial ?_
 refine PW.ret ?_
 refine retQ_ret (d := D.v (.bool (((checkP c).1) == (0 : Int)))) (ps := []) (by kernel_rfl) trivial ?_
 rfl
theorem hops_known_pc (e : Nat → Addr) (hA : Apart e) (c : Config) (a b : Int) (hp0 : c.parts.length < 1000000) (hl0 : c.links.length < 1000000) : PC Tryd.prog (errG2 e) 19 [D.r (Config.d c), I a, I b] (· = D.v (.bool (knownB c a b))) := by
 refine PC.of (N := 31) Tryd.func19 rfl rfl (Nat.le_of_ble_eq_true rfl) ?_
 refine PW.sr [1, 2, 3] 1 trivial ?_
 refine PW.sr [1, 2, 3, 7] 1 trivial ?_
 refine PW.sg ?_
 refine PL.rw 18 [27, 28] 1 trivial ?_
 refine PL.gc (A := [(27, true)]) (fun _ => hops_right_pc e hA c hp0 hl0) ?_
 refine PL.rw 2 [6] 1 trivial ?_
 refine PL.nl ?_
 refine PW.ret ?_
 refine retQ_ret (d := D.v (.bool (((((decide (a ≥ (0 : Int))) && (decide (a < (c.parts.length : Int)))) && (decide (b ≥ (0 : Int)))) && (decide (b < (c.parts.length : Int)))) && (rightB c)))) (ps := []) (by kernel_rfl) trivial ?_
 rfl
theorem hops_across_pc (l : Link) (a : Int) : PC Tryd.prog [] 25 [D.r (Link.d l), I a] (· = I (acrossI l a)) := by
 refine PC.of (N := 13) Tryd.func25 rfl rfl (Nat.le_of_ble_eq_true rfl) ?_
 refine PW.sr [1, 2] 1 trivial ?_
 refine PW.seq ?_
 refine PW.sr [2, 8] 1 trivial ?_
 refine PW.cd (l.a == a) (fun hz0 => ?_) (fun hz0 => ?_)
 ·try simp only [boolS, isB_true, isB_false] at hz0
  refine PW.sr [4] 1 trivial ?_
  refine PW.ret ?_
  refine retQ_ret (d := I l.b) (ps := []) (by kernel_rfl) trivial ?_
  unfold acrossI
  grind
 ·try simp only [boolS, isB_true, isB_false] at hz0
  refine PW.skip ?_
  show PW _ _ _ _ _
  refine PW.sr [4] 1 trivial ?_
  refine PW.ret ?_
  refine retQ_ret (d := I l.a) (ps := []) (by kernel_rfl) trivial ?_
  unfold acrossI
  grind
end Go.Proofs.YtleflkgdbagmnaaDoor.Pl
