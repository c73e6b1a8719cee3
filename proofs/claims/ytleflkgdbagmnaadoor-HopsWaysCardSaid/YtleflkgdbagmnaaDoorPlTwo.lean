/- Small functions of chapters 5 and 6. -/
import Derived.Test.YtleflkgdbagmnaaDoorPlOne
namespace Go.Proofs.YtleflkgdbagmnaaDoor.Pl
open Go.RowKit Go.Proofs.YtleflkgdbagmnaaDoor.Sm Go.Proofs.YtleflkgdbagmnaaDoor.Dp
set_option maxHeartbeats 4000000
set_option maxRecDepth 100000
set_option linter.unusedVariables false
set_option linter.unusedSimpArgs false
/-- a link's other end. -/
def otherI (l : Link) (a : Int) : Int := if l.a = a then l.b else if l.b = a then l.a else -1
theorem drumlineref5_other_pc (l : Link) (a : Int) : PC Tryd.prog [] 24 [D.r (Link.d l), I a] (· = I (otherI l a)) := by
 refine PC.of (N := 17) Tryd.func24 rfl rfl (Nat.le_of_ble_eq_true rfl) ?_
 refine PW.sr [1, 2] 1 trivial ?_
 refine PW.seq ?_
 refine PW.sr [1, 2, 8] 1 trivial ?_
 refine PW.cd (l.a == a) (fun hz0 => ?_) (fun hz0 => ?_)
 ·try simp only [boolS] at hz0
  refine PW.sr [4] 1 trivial ?_
  refine PW.ret ?_
  refine retQ_ret (d := I l.b) (ps := []) (by kernel_rfl) trivial ?_
  unfold otherI; grind
 ·try simp only [boolS] at hz0
  refine PW.skip ?_
  show PW _ _ _ _ _
  refine PW.seq ?_
  refine PW.sr [2, 14] 1 trivial ?_
  refine PW.cd (l.b == a) (fun hz1 => ?_) (fun hz1 => ?_)
  ·try simp only [boolS] at hz1
   refine PW.sr [4] 1 trivial ?_
   refine PW.ret ?_
   refine retQ_ret (d := I l.a) (ps := []) (by kernel_rfl) trivial ?_
   unfold otherI; grind
  ·try simp only [boolS] at hz1
   refine PW.skip ?_
   show PW _ _ _ _ _
   refine PW.sr [4] 1 trivial ?_
   refine PW.ret ?_
   refine retQ_ret (d := I (-1)) (ps := []) (by kernel_rfl) trivial ?_
   unfold otherI; grind
end Go.Proofs.YtleflkgdbagmnaaDoor.Pl
