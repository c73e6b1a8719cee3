/- Package plan's Check. -/
import Derived.Test.YtgklghpkfmoogaaGreatDoorPlEleven
import Derived.Test.YtgklghpkfmoogaaGreatDoorPlAs
namespace Go.Proofs.YtgklghpkfmoogaaGreatDoor.Pl
open Go.RowKit Go.Proofs.YtgklghpkfmoogaaGreatDoor.Sm Go.Proofs.YtgklghpkfmoogaaGreatDoor.Dp
set_option maxHeartbeats 4000000
set_option maxRecDepth 100000
set_option linter.unusedVariables false
set_option linter.unusedSimpArgs false
theorem findN_is {p:Nat→Bool}:∀ {n i:Nat},findN p n=some i→p i=true
 | 0,i,h=>by cases h
 | n+1,i,h=>by
  unfold findN at h
  split at h
  ·rename_i j hj
   cases h
   exact findN_is hj
  ·split at h
   ·rename_i hp
    cases h
    exact hp
   ·cases h
theorem checkP_is (c:Config):(checkP c).1=0∧(checkP c).2=0∨7≤(checkP c).1∧(checkP c).1≤13:=by
 unfold checkP
 split
 ·exact .inr (by decide)
 ·split
  ·exact .inr (by dsimp only; decide)
  ·split
   ·exact .inr (by decide)
   ·split
    ·rename_i i hi
     have h:=findN_is hi
     have h0:¬ linkE c i=0:=by simpa using h
     right
     show 7≤linkE c i∧linkE c i≤13
     rcases linkE_is c i with h1|h1|h1|h1
     ·exact absurd h1 h0
     all_goals rw [h1]; decide
    ·split
     ·exact .inr (by dsimp only; decide)
     ·exact .inl ⟨rfl,rfl⟩
theorem checkP_in {c:Config} (h:¬ (checkP c).1=0):7≤(checkP c).1∧(checkP c).1≤13:=by
 rcases checkP_is c with h1|h1
 ·exact absurd h1.1 h
 ·exact h1
theorem checkP_nil {c:Config} (h:(checkP c).1=0):(checkP c).2=0:=by
 rcases checkP_is c with h1|h1
 ·exact h1.2
 ·omega
theorem faultD_nil {e:Nat→Addr} {x:Int×Int} (h:x.1=0):faultD e x=D.v .nilIface:=if_pos h
theorem faultD_some {e:Nat→Addr} {x:Int×Int} (h:¬ x.1=0):faultD e x=D.i 101 (D.q [sentD e (kOf x.1),I x.2] 0):=if_neg h
theorem plan_Check_pc (e:Nat→Addr) (hA:Apart e) (c:Config) (hp0:c.parts.length<1000000) (hl0:c.links.length<1000000):PC Tryz.prog (errG2 e) 53 [D.r (Config.d c)] (· = D.t [I (checkP c).1,I (checkP c).2]):=by
 refine PC.of (N:=11) Tryz.func53 rfl rfl (Nat.le_of_ble_eq_true rfl) ?_
 refine PW.sr [1] 1 trivial ?_
 refine PW.seq ?_
 rcases Classical.em ((checkP c).1=0) with hq|hq
 ·skip
  refine PW.region ?_
  refine PL.rw 1 [5] 1 trivial ?_
  refine PL.gc (d:=D.v (.nilIface)) (A:=[]) (fun _=>((plan_check_pc e c hp0 hl0).weak (errG_sub e)).eq (faultD_nil hq)) ?_
  refine PL.rw 1 [4] 1 trivial ?_
  refine PL.nil ?_
  show PW _ _ _ _ _
  refine PW.sg ?_
  refine PL.rw 1 [4,7] 1 trivial ?_
  refine PL.gc (A:=[]) (fun _=>plan_number_nil_pc e) ?_
  refine PL.rw 1 [8,9] 1 trivial ?_
  refine PL.gc (G:=(errG2 e)) (A:=[]) (fun _=>PC.more (plan_place_nil_pc)) ?_
  refine PL.rw 2 [2,3] 1 trivial ?_
  refine PL.nl ?_
  refine PW.ret ?_
  refine retQ_ret (d:=D.t [I 0,I 0]) (ps:=[]) kR trivial ?_
  rw [hq,checkP_nil hq]
 ·skip
  refine PW.region ?_
  refine PL.rw 1 [5] 1 trivial ?_
  refine PL.gc (d:=D.i 101 (D.q [D.v (.iface 171 (.pointer (some (e (kOf (checkP c).1))))),I ((checkP c).2)] 0)) (A:=[]) (fun _=>((plan_check_pc e c hp0 hl0).weak (errG_sub e)).eq (faultD_some hq)) ?_
  refine PL.rw 1 [4] 1 trivial ?_
  refine PL.nil ?_
  show PW _ _ _ _ _
  refine PW.sg ?_
  refine PL.rw 1 [4,7] 1 trivial ?_
  refine PL.gc (ds0:=[D.i 101 (D.q [D.v (.iface 171 (.pointer (some (e (kOf (checkP c).1))))),I ((checkP c).2)] 0)]) (A:=[]) (fun _=>plan_number_fault_pc e hA (checkP c).1 (checkP c).2 (checkP_in hq) (kOf_lt _)) ?_
  refine PL.rw 1 [8,9] 1 trivial ?_
  refine PL.gc (A:=[]) (fun _=>plan_place_fault_pc e (kOf (checkP c).1) (checkP c).2) ?_
  refine PL.rw 2 [2,3] 1 trivial ?_
  refine PL.nl ?_
  refine PW.ret ?_
  refine retQ_ret (d:=D.t [I ((checkP c).1),I ((checkP c).2)]) (ps:=[]) kR trivial ?_
  rfl
end Go.Proofs.YtgklghpkfmoogaaGreatDoor.Pl
