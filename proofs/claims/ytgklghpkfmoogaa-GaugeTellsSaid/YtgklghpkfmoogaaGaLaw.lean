/- Chapter 12's laws GaugeTells, GaugeSpreads. -/
import Derived.Test.YtgklghpkfmoogaaGaOne
namespace Go.Proofs.Ytgklghpkfmoogaa.Pl
open Go.RowKit Go.Proofs.Ytgklghpkfmoogaa.Sm Go.Proofs.Ytgklghpkfmoogaa.Dp
set_option maxHeartbeats 4000000
set_option maxRecDepth 100000
set_option linter.unusedVariables false
set_option linter.unusedSimpArgs false
theorem drumlinelaw12_GaugeTells_pc (s a p t:Int):PC Try.prog [] 3 [I s,I a,I p,I t] (· = D.v (.bool true)):=by
 refine PC.of (N:=67) Try.func3 rfl rfl (Nat.le_of_ble_eq_true rfl) ?_
 refine PW.sr [0,1,2,3] 0 trivial ?_
 refine PW.seq ?_
 refine PW.sg ?_
 refine PL.gc (A:=[]) (fun _=>drumlinelaw12_alive_pc) ?_
 refine PL.rw 1 [0,1,2,3,18] 0 trivial ?_
 refine PL.nl ?_
 refine PW.cd false (fun hz0=>by cases hz0) (fun hz0 => ?_)
 refine PW.skip ?_
 show PW _ _ _ _ _
 refine PW.sg ?_
 refine PL.rw 3 [0,1,2,3,20,21,22] 0 trivial ?_
 refine PL.gc (A:=[]) (fun _=>gauge_Begin_pc a p t) ?_
 refine PL.rw 5 [0,1,2,3,9,10] 0 trivial ?_
 refine PL.nl ?_
 refine PW.sg ?_
 refine PL.rw 3 [0,1,2,3,9,10,27,28,29] 0 trivial ?_
 refine PL.gc (A:=[]) (fun _=>drumlineref10_Begin_pc a p t) ?_
 refine PL.rw 5 [0,1,2,3,9,10,11,12] 0 trivial ?_
 refine PL.nl ?_
 refine PW.sg ?_
 refine PL.rw 4 [0,1,2,3,9,10,11,12,34,35,36,37] 0 trivial ?_
 refine PL.gc (A:=[]) (fun _=>gauge_Late_pc s a p t) ?_
 refine PL.rw 5 [0,1,2,3,9,10,11,12,13,14] 0 trivial ?_
 refine PL.nl ?_
 refine PW.sg ?_
 refine PL.rw 4 [9,10,11,12,13,14,42,43,44,45] 0 trivial ?_
 refine PL.gc (A:=[]) (fun _=>drumlineref10_Behind_pc s a p t) ?_
 refine PL.rw 5 [9,10,11,12,13,14,15,16] 0 trivial ?_
 refine PL.nl ?_
 refine PW.sr [8] 0 trivial ?_
 refine PW.ret ?_
 refine retQ_ret (d:=D.v (.bool (((((beginI a p t) == (beginI a p t))&&((beginB a t) == (beginB a t)))&&((behI s a p t) == (behI s a p t)))&&((behB s a t) == (behB s a t))))) (ps:=[]) kR trivial ?_
 simp
theorem drumlinelaw12_GaugeSpreads_pc (l:List Int):PC Try.prog [] 4 [sl' 1 (fun x=>[I x]) l] (· = D.v (.bool true)):=by
 refine PC.of (N:=33) Try.func4 rfl rfl (Nat.le_of_ble_eq_true rfl) ?_
 refine PW.sr [0] 0 trivial ?_
 refine PW.seq ?_
 refine PW.sg ?_
 refine PL.gc (A:=[]) (fun _=>drumlinelaw12_alive_pc) ?_
 refine PL.rw 6 [0,13] 0 trivial ?_
 refine PL.nl ?_
 refine PW.cd (false||(decide ((l.length:Int)>(100:Int)))) (fun hz0 => ?_) (fun hz0 => ?_)
 ·try simp only [boolS] at hz0
  refine PW.sg ?_
  refine PL.gc (A:=[]) (fun _=>drumlinelaw12_alive_pc) ?_
  refine PL.rw 1 [2] 0 trivial ?_
  refine PL.nl ?_
  refine PW.ret ?_
  refine retQ_ret (d:=D.v (.bool true)) (ps:=[]) kR trivial ?_
  rfl
 ·try simp only [boolS] at hz0
  refine PW.skip ?_
  show PW _ _ _ _ _
  refine PW.sg ?_
  refine PL.rw 1 [0,16] 0 trivial ?_
  refine PL.gc (A:=[]) (fun _=>gauge_Spread_pc l (by first|omega|decide)) ?_
  refine PL.rw 5 [0,3,4] 0 trivial ?_
  refine PL.nl ?_
  refine PW.sg ?_
  refine PL.rw 1 [3,4,21] 0 trivial ?_
  refine PL.gc (A:=[]) (fun _=>drumlineref10_Spread_pc l (by first|omega|decide)) ?_
  refine PL.rw 5 [3,4,5,6] 0 trivial ?_
  refine PL.nl ?_
  refine PW.sr [2] 0 trivial ?_
  refine PW.ret ?_
  refine retQ_ret (d:=D.v (.bool (((spreadI l) == (spreadI l))&&((spreadB l) == (spreadB l))))) (ps:=[]) kR trivial ?_
  simp
end Go.Proofs.Ytgklghpkfmoogaa.Pl
