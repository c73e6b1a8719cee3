/- Chapter 7: the document's own Fits, Fit, First; the law's example. -/
import Derived.Test.YtgklghpkfmoogaaGreatDoorBdFive
import Derived.Test.YtgklghpkfmoogaaGreatDoorDpC
namespace Go.Proofs.YtgklghpkfmoogaaGreatDoor.Pl
open Go.RowKit Go.Proofs.YtgklghpkfmoogaaGreatDoor.Sm Go.Proofs.YtgklghpkfmoogaaGreatDoor.Dp
set_option maxHeartbeats 4000000
set_option maxRecDepth 100000
set_option linter.unusedVariables false
set_option linter.unusedSimpArgs false
theorem fitsP_zero (c:Config):(fitsP c).1=0↔fitB c=true:=by
 unfold fitsP fitB
 by_cases hg:(checkP c).1=0
 ·by_cases hk:condI c=0
  ·simp [hg,hk]
  ·simp [hg,hk]
 ·simp [hg]
theorem condI_fits {c:Config} (h:outI c=0):condI c=fitsI c:=by unfold condI fitsI; rw [if_neg (fun x=>x h)]
theorem condI_out {c:Config} (h:¬ outI c=0):condI c=outI c:=if_pos h
theorem fitsP_check {c:Config} (h:¬ (checkP c).1=0):fitsP c=checkP c:=if_neg h
theorem fitsP_bad {c:Config} (hg:(checkP c).1=0) (h:¬ condI c=0):fitsP c=(14,condI c):=by unfold fitsP; rw [if_pos hg,if_neg h]
theorem fitsP_good {c:Config} (hg:(checkP c).1=0) (h:condI c=0):fitsP c=(0,0):=by unfold fitsP; rw [if_pos hg,if_pos h]
theorem drumlineref5_Fits_pc (c:Config) (hp0:c.parts.length<1000000) (hl0:c.links.length<1000000):PC Tryz.prog [] 35 [D.r (Config.d c)] (· = D.t [I (fitsP c).1,I (fitsP c).2]):=by
 refine PC.of (N:=24) Tryz.func35 rfl rfl (Nat.le_of_ble_eq_true rfl) ?_
 refine PW.sr [1] 1 trivial ?_
 refine PW.sg ?_
 refine PL.rw 1 [1,7] 1 trivial ?_
 refine PL.gc (A:=[]) (fun _=>drumlineref5_Check_pc c hp0 hl0) ?_
 refine PL.rw 5 [1,4,5] 1 trivial ?_
 refine PL.nl ?_
 refine PW.seq ?_
 refine PW.sr [1,4,5,12] 1 trivial ?_
 refine PW.cd (((checkR c).1) != (0:Int)) (fun hz0 => ?_) (fun hz0 => ?_)
 ·try simp only [boolS,isB_true,isB_false] at hz0
  refine PW.sr [2,3] 1 trivial ?_
  refine PW.ret ?_
  refine retQ_ret (d:=D.t [I ((checkR c).1),I ((checkR c).2)]) (ps:=[]) kR trivial ?_
  rw [fitsP_check (by rw [check_same]; omega),check_same]
 ·try simp only [boolS,isB_true,isB_false] at hz0
  have hg:(checkP c).1=0:=by rw [check_same]; omega
  refine PW.skip ?_
  show PW _ _ _ _ _
  refine PW.sg ?_
  refine PL.rw 1 [1,15] 1 trivial ?_
  refine PL.gc (A:=[]) (fun _=>drumlineref5_out_pc c) ?_
  refine PL.rw 1 [1,5] 1 trivial ?_
  refine PL.nl ?_
  refine PW.seq ?_
  refine PW.sr [1,5,18] 1 trivial ?_
  refine PW.cd ((outI c) == (0:Int)) (fun hz1 => ?_) (fun hz1 => ?_)
  ·try simp only [boolS,isB_true,isB_false] at hz1
   have hg:(checkP c).1=0:=by rw [check_same]; omega
   have h:outI c=0:=by omega
   refine PW.region ?_
   refine PL.rw 1 [19] 1 trivial ?_
   refine PL.gc (A:=[]) (fun _=>drumlineref5_fits_pc c hg h hp0 hl0) ?_
   refine PL.rw 1 [5] 1 trivial ?_
   refine PL.nil ?_
   show PW _ _ _ _ _
   refine PW.seq ?_
   refine PW.sr [5,22] 1 trivial ?_
   refine PW.cd ((fitsI c) != (0:Int)) (fun hz2 => ?_) (fun hz2 => ?_)
   ·try simp only [boolS,isB_true,isB_false] at hz2
    have hg:(checkP c).1=0:=by rw [check_same]; omega
    have h:outI c=0:=by omega
    refine PW.sr [2,3] 1 trivial ?_
    refine PW.ret ?_
    refine retQ_ret (d:=D.t [I 14,I (fitsI c)]) (ps:=[]) kR trivial ?_
    rw [fitsP_bad hg (by rw [condI_fits h]; omega),condI_fits h]
   ·try simp only [boolS,isB_true,isB_false] at hz2
    have hg:(checkP c).1=0:=by rw [check_same]; omega
    have h:outI c=0:=by omega
    refine PW.skip ?_
    show PW _ _ _ _ _
    refine PW.sr [2,3] 1 trivial ?_
    refine PW.ret ?_
    refine retQ_ret (d:=D.t [I 0,I 0]) (ps:=[]) kR trivial ?_
    rw [fitsP_good hg (by rw [condI_fits h]; omega)]
  ·try simp only [boolS,isB_true,isB_false] at hz1
   have hg:(checkP c).1=0:=by rw [check_same]; omega
   refine PW.skip ?_
   show PW _ _ _ _ _
   refine PW.seq ?_
   refine PW.sr [5,22] 1 trivial ?_
   refine PW.cd ((outI c) != (0:Int)) (fun hz3 => ?_) (fun hz3 => ?_)
   ·try simp only [boolS,isB_true,isB_false] at hz3
    have hg:(checkP c).1=0:=by rw [check_same]; omega
    refine PW.sr [2,3] 1 trivial ?_
    refine PW.ret ?_
    refine retQ_ret (d:=D.t [I 14,I (outI c)]) (ps:=[]) kR trivial ?_
    rw [fitsP_bad hg (by rw [condI_out oM]; omega),condI_out oM]
   ·try simp only [boolS,isB_true,isB_false] at hz3
    have hg:(checkP c).1=0:=by rw [check_same]; omega
    have h:outI c=0:=by omega
    refine PW.skip ?_
    show PW _ _ _ _ _
    refine PW.sr [2,3] 1 trivial ?_
    refine PW.ret ?_
    refine retQ_ret (d:=D.t [I 0,I 0]) (ps:=[]) kR trivial ?_
    exfalso
    omega
theorem drumlineref5_Fit_pc (c:Config) (part:Int) (hp0:c.parts.length<1000000) (hl0:c.links.length<1000000):PC Tryz.prog [] 19 [D.r (Config.d c),I part] (· = D.v (.bool (((fitsP c).1 == (0:Int))&&isB part c.parts.length))):=by
 refine PC.of (N:=21) Tryz.func19 rfl rfl (Nat.le_of_ble_eq_true rfl) ?_
 refine PW.sr [1,2] 1 trivial ?_
 refine PW.sg ?_
 refine PL.rw 1 [1,2,8] 1 trivial ?_
 refine PL.gc (A:=[]) (fun _=>drumlineref5_Fits_pc c hp0 hl0) ?_
 refine PL.rw 5 [1,2,5] 1 trivial ?_
 refine PL.nl ?_
 refine PW.sg ?_
 refine PL.rw 7 [14,15,18] 1 trivial ?_
 refine PL.gc (A:=[(14,true)]) (fun _=>drumlineref5_is_pc part (c.parts.length:Int)) ?_
 refine PL.rw 2 [4] 1 trivial ?_
 refine PL.nl ?_
 refine PW.ret ?_
 refine retQ_ret (d:=D.v (.bool ((((fitsP c).1) == (0:Int))&&(isB part (c.parts.length:Int))))) (ps:=[]) kR trivial ?_
 rfl
def sampleC:Config:=⟨[⟨4,1⟩],[],20000,60,100,15,100,100000,2,0,3,3,3⟩
end Go.Proofs.YtgklghpkfmoogaaGreatDoor.Pl
