/- Package plan's number. -/
import Derived.Test.YtgklghpkfmoogaaGreatDoorPlErr
namespace Go.Proofs.YtgklghpkfmoogaaGreatDoor.Pl
open Go.RowKit Go.Proofs.YtgklghpkfmoogaaGreatDoor.Sm Go.Proofs.YtgklghpkfmoogaaGreatDoor.Dp
set_option maxHeartbeats 4000000
set_option maxRecDepth 100000
set_option linter.unusedVariables false
set_option linter.unusedSimpArgs false
def Apart (e:Nat→Addr):Prop:=∀ j k,j<7→k<7→e j=e k→j=k
theorem kOf_lt (n:Int):kOf n<7:=by unfold kOf; grind
theorem plan_number_nil_pc (e:Nat→Addr):PC Tryz.prog (errG2 e) 72 [D.v (.nilIface)] (· = I 0):=by
 refine PC.of (N:=30) Tryz.func72 rfl rfl (Nat.le_of_ble_eq_true rfl) ?_
 refine PW.sr [0] 0 trivial ?_
 refine PW.seq ?_
 refine PW.block ?_
 refine PW.sr [0,3] 0 trivial ?_
 refine PW.cd true (fun hz0 => ?_) (fun hz0=>by cases hz0)
 refine PW.sr [2] 0 trivial ?_
 refine PW.ret ?_
 refine retQ_ret (d:=I 0) (ps:=[]) kR trivial ?_
 rfl
theorem plan_number_fault_pc (e:Nat→Addr) (hA:Apart e) (n at_:Int) (hn:7≤n∧n≤13) (hk:kOf n<7):PC Tryz.prog (errG2 e) 72 [D.i 101 (D.q [D.v (.iface 171 (.pointer (some (e (kOf n))))),I at_] 0)] (· = I n):=by
 refine PC.of (N:=30) Tryz.func72 rfl rfl (Nat.le_of_ble_eq_true rfl) ?_
 refine PW.sr [0] 0 trivial ?_
 refine PW.seq ?_
 refine PW.block ?_
 refine PW.sr [0,3] 0 trivial ?_
 refine PW.cd false (fun hz0=>by cases hz0) (fun hz0 => ?_)
 refine PW.sg ?_
 refine PL.rw 2 [0,7,8] 0 trivial ?_
 refine PL.gc (A:=[]) (fun _=>errors_Is_pc e (kOf n) 0 at_ hk (by decide)) ?_
 refine PL.rw 1 [0,6] 0 trivial ?_
 refine PL.nl ?_
 refine PW.cd (decide (e (kOf n)=e 0)) (fun hz1 => ?_) (fun hz1 => ?_)
 ·try simp only [boolS,isB_true,isB_false] at hz1
  refine PW.sr [2] 0 trivial ?_
  refine PW.ret ?_
  refine retQ_ret (d:=I 7) (ps:=[]) kR trivial ?_
  have hk0:kOf n=0:=hA _ _ hk (by decide) (by assumption)
  have hn0:n=7:=by unfold kOf at hk0; grind
  rw [hn0]
 ·try simp only [boolS,isB_true,isB_false] at hz1
  refine PW.sg ?_
  refine PL.rw 2 [0,11,12] 0 trivial ?_
  refine PL.gc (A:=[]) (fun _=>errors_Is_pc e (kOf n) 1 at_ hk (by decide)) ?_
  refine PL.rw 1 [0,10] 0 trivial ?_
  refine PL.nl ?_
  refine PW.cd (decide (e (kOf n)=e 1)) (fun hz2 => ?_) (fun hz2 => ?_)
  ·try simp only [boolS,isB_true,isB_false] at hz2
   refine PW.sr [2] 0 trivial ?_
   refine PW.ret ?_
   refine retQ_ret (d:=I 8) (ps:=[]) kR trivial ?_
   have hk0:kOf n=1:=hA _ _ hk (by decide) (by assumption)
   have hn0:n=8:=by unfold kOf at hk0; grind
   rw [hn0]
  ·try simp only [boolS,isB_true,isB_false] at hz2
   refine PW.sg ?_
   refine PL.rw 2 [0,15,16] 0 trivial ?_
   refine PL.gc (A:=[]) (fun _=>errors_Is_pc e (kOf n) 2 at_ hk (by decide)) ?_
   refine PL.rw 1 [0,14] 0 trivial ?_
   refine PL.nl ?_
   refine PW.cd (decide (e (kOf n)=e 2)) (fun hz3 => ?_) (fun hz3 => ?_)
   ·try simp only [boolS,isB_true,isB_false] at hz3
    refine PW.sr [2] 0 trivial ?_
    refine PW.ret ?_
    refine retQ_ret (d:=I 9) (ps:=[]) kR trivial ?_
    have hk0:kOf n=2:=hA _ _ hk (by decide) (by assumption)
    have hn0:n=9:=by unfold kOf at hk0; grind
    rw [hn0]
   ·try simp only [boolS,isB_true,isB_false] at hz3
    refine PW.sg ?_
    refine PL.rw 2 [0,19,20] 0 trivial ?_
    refine PL.gc (A:=[]) (fun _=>errors_Is_pc e (kOf n) 4 at_ hk (by decide)) ?_
    refine PL.rw 1 [0,18] 0 trivial ?_
    refine PL.nl ?_
    refine PW.cd (decide (e (kOf n)=e 4)) (fun hz4 => ?_) (fun hz4 => ?_)
    ·try simp only [boolS,isB_true,isB_false] at hz4
     refine PW.sr [2] 0 trivial ?_
     refine PW.ret ?_
     refine retQ_ret (d:=I 10) (ps:=[]) kR trivial ?_
     have hk0:kOf n=4:=hA _ _ hk (by decide) (by assumption)
     have hn0:n=10:=by unfold kOf at hk0; grind
     rw [hn0]
    ·try simp only [boolS,isB_true,isB_false] at hz4
     refine PW.sg ?_
     refine PL.rw 2 [0,23,24] 0 trivial ?_
     refine PL.gc (A:=[]) (fun _=>errors_Is_pc e (kOf n) 5 at_ hk (by decide)) ?_
     refine PL.rw 1 [0,22] 0 trivial ?_
     refine PL.nl ?_
     refine PW.cd (decide (e (kOf n)=e 5)) (fun hz5 => ?_) (fun hz5 => ?_)
     ·try simp only [boolS,isB_true,isB_false] at hz5
      refine PW.sr [2] 0 trivial ?_
      refine PW.ret ?_
      refine retQ_ret (d:=I 11) (ps:=[]) kR trivial ?_
      have hk0:kOf n=5:=hA _ _ hk (by decide) (by assumption)
      have hn0:n=11:=by unfold kOf at hk0; grind
      rw [hn0]
     ·try simp only [boolS,isB_true,isB_false] at hz5
      refine PW.sg ?_
      refine PL.rw 2 [27,28] 0 trivial ?_
      refine PL.gc (A:=[]) (fun _=>errors_Is_pc e (kOf n) 6 at_ hk (by decide)) ?_
      refine PL.rw 1 [26] 0 trivial ?_
      refine PL.nl ?_
      refine PW.cd (decide (e (kOf n)=e 6)) (fun hz6 => ?_) (fun hz6 => ?_)
      ·try simp only [boolS,isB_true,isB_false] at hz6
       refine PW.sr [2] 0 trivial ?_
       refine PW.ret ?_
       refine retQ_ret (d:=I 12) (ps:=[]) kR trivial ?_
       have hk0:kOf n=6:=hA _ _ hk (by decide) (by assumption)
       have hn0:n=12:=by unfold kOf at hk0; grind
       rw [hn0]
      ·try simp only [boolS,isB_true,isB_false] at hz6
       refine PW.skip ?_
       show PW _ _ _ _ _
       refine PW.sr [2] 0 trivial ?_
       refine PW.ret ?_
       refine retQ_ret (d:=I 13) (ps:=[]) kR trivial ?_
       have hk3:kOf n=0∨kOf n=1∨kOf n=2∨kOf n=3∨kOf n=4∨kOf n=5∨kOf n=6:=by omega
       have hn0:n=13:=by
        unfold kOf at *
        grind
       rw [hn0]
end Go.Proofs.YtgklghpkfmoogaaGreatDoor.Pl
