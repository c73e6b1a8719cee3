/- Several texts in one: PlSort PlSortB PlSortC PlPort PlPortB. -/
import Derived.Test.YtdomlccfjnkbjaaGreatDoorPlReach
import Derived.Test.YtdomlccfjnkbjaaGreatDoorDpC
import Derived.Test.YtdomlccfjnkbjaaGreatDoorPlTwelve
namespace Go.Proofs.YtdomlccfjnkbjaaGreatDoor.Pl
open Go.RowKit Go.Proofs.YtdomlccfjnkbjaaGreatDoor.Sm Go.Proofs.YtdomlccfjnkbjaaGreatDoor.Dp
set_option maxHeartbeats 4000000
set_option maxRecDepth 100000
set_option linter.unusedVariables false
set_option linter.unusedSimpArgs false
def cmpI (x y:Int):Int:=if x<y then -1 else if x>y then 1 else 0
theorem cmpI_lt (x y:Int):(cmpI x y<0)=(x<y):=by unfold cmpI; apply propext; split <;> (try split) <;> constructor <;> intro _ <;> omega
theorem isNaN_pc (x:Int):PC Tryz.prog [] 111 [I x] (· = D.v (.bool false)):=by
 refine PC.of (N:=6) Tryz.func111 rfl rfl (Nat.le_of_ble_eq_true rfl) ?_
 refine PW.a [0] 0 (PW.t [2] 0 (rq (D.v (.bool (x != x))) ?_))
 simp
theorem compare_pc (x y:Int):PC Tryz.prog [] 83 [I x,I y] (· = I (cmpI x y)):=by
 refine PC.of (N:=20) Tryz.func83 rfl rfl (Nat.le_of_ble_eq_true rfl) ?_
 refine PW.a [0,1] 0 (PW.w 1 [0,1,7] 0 (PL.gc (A:=[]) (fun _=>isNaN_pc x) (PL.n 1 [0,1,5] 0 (PW.w 1 [0,1,5,9] 0 (PL.gc (A:=[]) (fun _=>isNaN_pc y) (PL.n 1 [0,1,5,6] 0 (PW.q [0,1,6,11] 0 ?_)))))))
 refine PW.cd false (fun hz0=>by cases hz0) (fun hz0 => ?_)
 refine PW.k (PW.q [0,1,13] 0 (PW.cd false (fun hz1=>by cases hz1) (fun hz1 => ?_)))
 refine PW.k (PW.q [0,1,16] 0 (PW.cd (decide (x<y)) ?_ ?_)) <;> intro hz2 <;> try simp only [boolS,isB_true,isB_false] at hz2
 ·refine PW.t [4] 0 (rq (I (-1)) ?_)
  unfold cmpI; rw [if_pos oM]
 ·refine PW.k (PW.q [19] 0 (PW.cd (decide (x>y)) ?_ ?_)) <;> intro hz3 <;> try simp only [boolS,isB_true,isB_false] at hz3
  ·refine PW.t [4] 0 (rq (I 1) ?_)
   unfold cmpI; rw [if_neg oM,if_pos oM]
  ·refine PW.k (PW.t [4] 0 (rq (I 0) ?_))
   unfold cmpI; rw [if_neg oM,if_neg oM]
theorem portCmp_pc (p q:Port):PC Tryz.prog [] 82 [D.r [I p.node,I p.link,I p.gate,I p.side],D.r [I q.node,I q.link,I q.gate,I q.side]] (· = I (cmpI p.node q.node)):=by
 refine PC.of (N:=10) Tryz.func82 rfl rfl (Nat.le_of_ble_eq_true rfl) ?_
 refine PW.a [2,3] 2 (PW.w 4 [6,8] 2 (PL.gc (A:=[]) (fun _=>compare_pc p.node q.node) (PL.n 1 [4] 2 (PW.ret (rq (I (cmpI p.node q.node)) ?_)))))
 rfl
theorem len64_pc_0  : PC Tryz.prog [] 149 [D.v (.int .u64 0)] (fun d=>∃ k,d=I k):=by
 refine PC.of (N:=25) Tryz.func149 rfl rfl (Nat.le_of_ble_eq_true rfl) ?_
 refine PW.a [0,2] 0 (PW.q [0,2,4] 0 (PW.cd false (fun hz0=>by cases hz0) (fun hz0 => ?_)))
 refine PW.k (PW.q [0,2,8] 0 (PW.cd false (fun hz1=>by cases hz1) (fun hz1 => ?_)))
 refine PW.k (PW.q [0,2,14] 0 (PW.cd false (fun hz2=>by cases hz2) (fun hz2 => ?_)))
 refine PW.k (PW.t [2] 0 (rq (I 0) ?_))
 exact ⟨_,rfl⟩
theorem len64_pc_1  : PC Tryz.prog [] 149 [D.v (.int .u64 1)] (fun d=>∃ k,d=I k):=by
 refine PC.of (N:=25) Tryz.func149 rfl rfl (Nat.le_of_ble_eq_true rfl) ?_
 refine PW.a [0,2] 0 (PW.q [0,2,4] 0 (PW.cd false (fun hz0=>by cases hz0) (fun hz0 => ?_)))
 refine PW.k (PW.q [0,2,8] 0 (PW.cd false (fun hz1=>by cases hz1) (fun hz1 => ?_)))
 refine PW.k (PW.q [0,2,14] 0 (PW.cd false (fun hz2=>by cases hz2) (fun hz2 => ?_)))
 refine PW.k (PW.t [2] 0 (rq (I 1) ?_))
 exact ⟨_,rfl⟩
theorem len64_pc_2  : PC Tryz.prog [] 149 [D.v (.int .u64 2)] (fun d=>∃ k,d=I k):=by
 refine PC.of (N:=25) Tryz.func149 rfl rfl (Nat.le_of_ble_eq_true rfl) ?_
 refine PW.a [0,2] 0 (PW.q [0,2,4] 0 (PW.cd false (fun hz0=>by cases hz0) (fun hz0 => ?_)))
 refine PW.k (PW.q [0,2,8] 0 (PW.cd false (fun hz1=>by cases hz1) (fun hz1 => ?_)))
 refine PW.k (PW.q [0,2,14] 0 (PW.cd false (fun hz2=>by cases hz2) (fun hz2 => ?_)))
 refine PW.k (PW.t [2] 0 (rq (I 2) ?_))
 exact ⟨_,rfl⟩
theorem len64_pc_3  : PC Tryz.prog [] 149 [D.v (.int .u64 3)] (fun d=>∃ k,d=I k):=by
 refine PC.of (N:=25) Tryz.func149 rfl rfl (Nat.le_of_ble_eq_true rfl) ?_
 refine PW.a [0,2] 0 (PW.q [0,2,4] 0 (PW.cd false (fun hz0=>by cases hz0) (fun hz0 => ?_)))
 refine PW.k (PW.q [0,2,8] 0 (PW.cd false (fun hz1=>by cases hz1) (fun hz1 => ?_)))
 refine PW.k (PW.q [0,2,14] 0 (PW.cd false (fun hz2=>by cases hz2) (fun hz2 => ?_)))
 refine PW.k (PW.t [2] 0 (rq (I 2) ?_))
 exact ⟨_,rfl⟩
theorem len64_pc_4  : PC Tryz.prog [] 149 [D.v (.int .u64 4)] (fun d=>∃ k,d=I k):=by
 refine PC.of (N:=25) Tryz.func149 rfl rfl (Nat.le_of_ble_eq_true rfl) ?_
 refine PW.a [0,2] 0 (PW.q [0,2,4] 0 (PW.cd false (fun hz0=>by cases hz0) (fun hz0 => ?_)))
 refine PW.k (PW.q [0,2,8] 0 (PW.cd false (fun hz1=>by cases hz1) (fun hz1 => ?_)))
 refine PW.k (PW.q [0,2,14] 0 (PW.cd false (fun hz2=>by cases hz2) (fun hz2 => ?_)))
 refine PW.k (PW.t [2] 0 (rq (I 3) ?_))
 exact ⟨_,rfl⟩
theorem len64_pc_5  : PC Tryz.prog [] 149 [D.v (.int .u64 5)] (fun d=>∃ k,d=I k):=by
 refine PC.of (N:=25) Tryz.func149 rfl rfl (Nat.le_of_ble_eq_true rfl) ?_
 refine PW.a [0,2] 0 (PW.q [0,2,4] 0 (PW.cd false (fun hz0=>by cases hz0) (fun hz0 => ?_)))
 refine PW.k (PW.q [0,2,8] 0 (PW.cd false (fun hz1=>by cases hz1) (fun hz1 => ?_)))
 refine PW.k (PW.q [0,2,14] 0 (PW.cd false (fun hz2=>by cases hz2) (fun hz2 => ?_)))
 refine PW.k (PW.t [2] 0 (rq (I 3) ?_))
 exact ⟨_,rfl⟩
theorem len64_pc_6  : PC Tryz.prog [] 149 [D.v (.int .u64 6)] (fun d=>∃ k,d=I k):=by
 refine PC.of (N:=25) Tryz.func149 rfl rfl (Nat.le_of_ble_eq_true rfl) ?_
 refine PW.a [0,2] 0 (PW.q [0,2,4] 0 (PW.cd false (fun hz0=>by cases hz0) (fun hz0 => ?_)))
 refine PW.k (PW.q [0,2,8] 0 (PW.cd false (fun hz1=>by cases hz1) (fun hz1 => ?_)))
 refine PW.k (PW.q [0,2,14] 0 (PW.cd false (fun hz2=>by cases hz2) (fun hz2 => ?_)))
 refine PW.k (PW.t [2] 0 (rq (I 3) ?_))
 exact ⟨_,rfl⟩
theorem len64_pc_7  : PC Tryz.prog [] 149 [D.v (.int .u64 7)] (fun d=>∃ k,d=I k):=by
 refine PC.of (N:=25) Tryz.func149 rfl rfl (Nat.le_of_ble_eq_true rfl) ?_
 refine PW.a [0,2] 0 (PW.q [0,2,4] 0 (PW.cd false (fun hz0=>by cases hz0) (fun hz0 => ?_)))
 refine PW.k (PW.q [0,2,8] 0 (PW.cd false (fun hz1=>by cases hz1) (fun hz1 => ?_)))
 refine PW.k (PW.q [0,2,14] 0 (PW.cd false (fun hz2=>by cases hz2) (fun hz2 => ?_)))
 refine PW.k (PW.t [2] 0 (rq (I 3) ?_))
 exact ⟨_,rfl⟩
theorem len64_pc_8  : PC Tryz.prog [] 149 [D.v (.int .u64 8)] (fun d=>∃ k,d=I k):=by
 refine PC.of (N:=25) Tryz.func149 rfl rfl (Nat.le_of_ble_eq_true rfl) ?_
 refine PW.a [0,2] 0 (PW.q [0,2,4] 0 (PW.cd false (fun hz0=>by cases hz0) (fun hz0 => ?_)))
 refine PW.k (PW.q [0,2,8] 0 (PW.cd false (fun hz1=>by cases hz1) (fun hz1 => ?_)))
 refine PW.k (PW.q [0,2,14] 0 (PW.cd false (fun hz2=>by cases hz2) (fun hz2 => ?_)))
 refine PW.k (PW.t [2] 0 (rq (I 4) ?_))
 exact ⟨_,rfl⟩
theorem len64_pc_9  : PC Tryz.prog [] 149 [D.v (.int .u64 9)] (fun d=>∃ k,d=I k):=by
 refine PC.of (N:=25) Tryz.func149 rfl rfl (Nat.le_of_ble_eq_true rfl) ?_
 refine PW.a [0,2] 0 (PW.q [0,2,4] 0 (PW.cd false (fun hz0=>by cases hz0) (fun hz0 => ?_)))
 refine PW.k (PW.q [0,2,8] 0 (PW.cd false (fun hz1=>by cases hz1) (fun hz1 => ?_)))
 refine PW.k (PW.q [0,2,14] 0 (PW.cd false (fun hz2=>by cases hz2) (fun hz2 => ?_)))
 refine PW.k (PW.t [2] 0 (rq (I 4) ?_))
 exact ⟨_,rfl⟩
theorem len64_pc_10  : PC Tryz.prog [] 149 [D.v (.int .u64 10)] (fun d=>∃ k,d=I k):=by
 refine PC.of (N:=25) Tryz.func149 rfl rfl (Nat.le_of_ble_eq_true rfl) ?_
 refine PW.a [0,2] 0 (PW.q [0,2,4] 0 (PW.cd false (fun hz0=>by cases hz0) (fun hz0 => ?_)))
 refine PW.k (PW.q [0,2,8] 0 (PW.cd false (fun hz1=>by cases hz1) (fun hz1 => ?_)))
 refine PW.k (PW.q [0,2,14] 0 (PW.cd false (fun hz2=>by cases hz2) (fun hz2 => ?_)))
 refine PW.k (PW.t [2] 0 (rq (I 4) ?_))
 exact ⟨_,rfl⟩
theorem len64_pc_11  : PC Tryz.prog [] 149 [D.v (.int .u64 11)] (fun d=>∃ k,d=I k):=by
 refine PC.of (N:=25) Tryz.func149 rfl rfl (Nat.le_of_ble_eq_true rfl) ?_
 refine PW.a [0,2] 0 (PW.q [0,2,4] 0 (PW.cd false (fun hz0=>by cases hz0) (fun hz0 => ?_)))
 refine PW.k (PW.q [0,2,8] 0 (PW.cd false (fun hz1=>by cases hz1) (fun hz1 => ?_)))
 refine PW.k (PW.q [0,2,14] 0 (PW.cd false (fun hz2=>by cases hz2) (fun hz2 => ?_)))
 refine PW.k (PW.t [2] 0 (rq (I 4) ?_))
 exact ⟨_,rfl⟩
theorem len64_pc_12  : PC Tryz.prog [] 149 [D.v (.int .u64 12)] (fun d=>∃ k,d=I k):=by
 refine PC.of (N:=25) Tryz.func149 rfl rfl (Nat.le_of_ble_eq_true rfl) ?_
 refine PW.a [0,2] 0 (PW.q [0,2,4] 0 (PW.cd false (fun hz0=>by cases hz0) (fun hz0 => ?_)))
 refine PW.k (PW.q [0,2,8] 0 (PW.cd false (fun hz1=>by cases hz1) (fun hz1 => ?_)))
 refine PW.k (PW.q [0,2,14] 0 (PW.cd false (fun hz2=>by cases hz2) (fun hz2 => ?_)))
 refine PW.k (PW.t [2] 0 (rq (I 4) ?_))
 exact ⟨_,rfl⟩
theorem len_pc_0  : PC Tryz.prog [] 110 [D.v (.int .u64 0)] (fun d=>∃ k,d=I k):=by
 refine PC.of (N:=8) Tryz.func110 rfl rfl (Nat.le_of_ble_eq_true rfl) ?_
 refine PW.a [0] 0 (PW.seq (PW.cd false (fun hz0=>by cases hz0) (fun hz0 => ?_)))
 refine PW.k (PW.w 1 [6] 0 (PL.cl (f:=149) (ds:=[D.v (.int .u64 0)]) (len64_pc_0) ?_))
 rintro _ ⟨k,rfl⟩
 refine PL.n 1 [2] 0 (PW.ret (rq (I k) ?_))
 exact ⟨_,rfl⟩
theorem len_pc_1  : PC Tryz.prog [] 110 [D.v (.int .u64 1)] (fun d=>∃ k,d=I k):=by
 refine PC.of (N:=8) Tryz.func110 rfl rfl (Nat.le_of_ble_eq_true rfl) ?_
 refine PW.a [0] 0 (PW.seq (PW.cd false (fun hz0=>by cases hz0) (fun hz0 => ?_)))
 refine PW.k (PW.w 1 [6] 0 (PL.cl (f:=149) (ds:=[D.v (.int .u64 1)]) (len64_pc_1) ?_))
 rintro _ ⟨k,rfl⟩
 refine PL.n 1 [2] 0 (PW.ret (rq (I k) ?_))
 exact ⟨_,rfl⟩
theorem len_pc_2  : PC Tryz.prog [] 110 [D.v (.int .u64 2)] (fun d=>∃ k,d=I k):=by
 refine PC.of (N:=8) Tryz.func110 rfl rfl (Nat.le_of_ble_eq_true rfl) ?_
 refine PW.a [0] 0 (PW.seq (PW.cd false (fun hz0=>by cases hz0) (fun hz0 => ?_)))
 refine PW.k (PW.w 1 [6] 0 (PL.cl (f:=149) (ds:=[D.v (.int .u64 2)]) (len64_pc_2) ?_))
 rintro _ ⟨k,rfl⟩
 refine PL.n 1 [2] 0 (PW.ret (rq (I k) ?_))
 exact ⟨_,rfl⟩
theorem len_pc_3  : PC Tryz.prog [] 110 [D.v (.int .u64 3)] (fun d=>∃ k,d=I k):=by
 refine PC.of (N:=8) Tryz.func110 rfl rfl (Nat.le_of_ble_eq_true rfl) ?_
 refine PW.a [0] 0 (PW.seq (PW.cd false (fun hz0=>by cases hz0) (fun hz0 => ?_)))
 refine PW.k (PW.w 1 [6] 0 (PL.cl (f:=149) (ds:=[D.v (.int .u64 3)]) (len64_pc_3) ?_))
 rintro _ ⟨k,rfl⟩
 refine PL.n 1 [2] 0 (PW.ret (rq (I k) ?_))
 exact ⟨_,rfl⟩
theorem len_pc_4  : PC Tryz.prog [] 110 [D.v (.int .u64 4)] (fun d=>∃ k,d=I k):=by
 refine PC.of (N:=8) Tryz.func110 rfl rfl (Nat.le_of_ble_eq_true rfl) ?_
 refine PW.a [0] 0 (PW.seq (PW.cd false (fun hz0=>by cases hz0) (fun hz0 => ?_)))
 refine PW.k (PW.w 1 [6] 0 (PL.cl (f:=149) (ds:=[D.v (.int .u64 4)]) (len64_pc_4) ?_))
 rintro _ ⟨k,rfl⟩
 refine PL.n 1 [2] 0 (PW.ret (rq (I k) ?_))
 exact ⟨_,rfl⟩
theorem len_pc_5  : PC Tryz.prog [] 110 [D.v (.int .u64 5)] (fun d=>∃ k,d=I k):=by
 refine PC.of (N:=8) Tryz.func110 rfl rfl (Nat.le_of_ble_eq_true rfl) ?_
 refine PW.a [0] 0 (PW.seq (PW.cd false (fun hz0=>by cases hz0) (fun hz0 => ?_)))
 refine PW.k (PW.w 1 [6] 0 (PL.cl (f:=149) (ds:=[D.v (.int .u64 5)]) (len64_pc_5) ?_))
 rintro _ ⟨k,rfl⟩
 refine PL.n 1 [2] 0 (PW.ret (rq (I k) ?_))
 exact ⟨_,rfl⟩
theorem len_pc_6  : PC Tryz.prog [] 110 [D.v (.int .u64 6)] (fun d=>∃ k,d=I k):=by
 refine PC.of (N:=8) Tryz.func110 rfl rfl (Nat.le_of_ble_eq_true rfl) ?_
 refine PW.a [0] 0 (PW.seq (PW.cd false (fun hz0=>by cases hz0) (fun hz0 => ?_)))
 refine PW.k (PW.w 1 [6] 0 (PL.cl (f:=149) (ds:=[D.v (.int .u64 6)]) (len64_pc_6) ?_))
 rintro _ ⟨k,rfl⟩
 refine PL.n 1 [2] 0 (PW.ret (rq (I k) ?_))
 exact ⟨_,rfl⟩
theorem len_pc_7  : PC Tryz.prog [] 110 [D.v (.int .u64 7)] (fun d=>∃ k,d=I k):=by
 refine PC.of (N:=8) Tryz.func110 rfl rfl (Nat.le_of_ble_eq_true rfl) ?_
 refine PW.a [0] 0 (PW.seq (PW.cd false (fun hz0=>by cases hz0) (fun hz0 => ?_)))
 refine PW.k (PW.w 1 [6] 0 (PL.cl (f:=149) (ds:=[D.v (.int .u64 7)]) (len64_pc_7) ?_))
 rintro _ ⟨k,rfl⟩
 refine PL.n 1 [2] 0 (PW.ret (rq (I k) ?_))
 exact ⟨_,rfl⟩
theorem len_pc_8  : PC Tryz.prog [] 110 [D.v (.int .u64 8)] (fun d=>∃ k,d=I k):=by
 refine PC.of (N:=8) Tryz.func110 rfl rfl (Nat.le_of_ble_eq_true rfl) ?_
 refine PW.a [0] 0 (PW.seq (PW.cd false (fun hz0=>by cases hz0) (fun hz0 => ?_)))
 refine PW.k (PW.w 1 [6] 0 (PL.cl (f:=149) (ds:=[D.v (.int .u64 8)]) (len64_pc_8) ?_))
 rintro _ ⟨k,rfl⟩
 refine PL.n 1 [2] 0 (PW.ret (rq (I k) ?_))
 exact ⟨_,rfl⟩
theorem len_pc_9  : PC Tryz.prog [] 110 [D.v (.int .u64 9)] (fun d=>∃ k,d=I k):=by
 refine PC.of (N:=8) Tryz.func110 rfl rfl (Nat.le_of_ble_eq_true rfl) ?_
 refine PW.a [0] 0 (PW.seq (PW.cd false (fun hz0=>by cases hz0) (fun hz0 => ?_)))
 refine PW.k (PW.w 1 [6] 0 (PL.cl (f:=149) (ds:=[D.v (.int .u64 9)]) (len64_pc_9) ?_))
 rintro _ ⟨k,rfl⟩
 refine PL.n 1 [2] 0 (PW.ret (rq (I k) ?_))
 exact ⟨_,rfl⟩
theorem len_pc_10  : PC Tryz.prog [] 110 [D.v (.int .u64 10)] (fun d=>∃ k,d=I k):=by
 refine PC.of (N:=8) Tryz.func110 rfl rfl (Nat.le_of_ble_eq_true rfl) ?_
 refine PW.a [0] 0 (PW.seq (PW.cd false (fun hz0=>by cases hz0) (fun hz0 => ?_)))
 refine PW.k (PW.w 1 [6] 0 (PL.cl (f:=149) (ds:=[D.v (.int .u64 10)]) (len64_pc_10) ?_))
 rintro _ ⟨k,rfl⟩
 refine PL.n 1 [2] 0 (PW.ret (rq (I k) ?_))
 exact ⟨_,rfl⟩
theorem len_pc_11  : PC Tryz.prog [] 110 [D.v (.int .u64 11)] (fun d=>∃ k,d=I k):=by
 refine PC.of (N:=8) Tryz.func110 rfl rfl (Nat.le_of_ble_eq_true rfl) ?_
 refine PW.a [0] 0 (PW.seq (PW.cd false (fun hz0=>by cases hz0) (fun hz0 => ?_)))
 refine PW.k (PW.w 1 [6] 0 (PL.cl (f:=149) (ds:=[D.v (.int .u64 11)]) (len64_pc_11) ?_))
 rintro _ ⟨k,rfl⟩
 refine PL.n 1 [2] 0 (PW.ret (rq (I k) ?_))
 exact ⟨_,rfl⟩
theorem len_pc_12  : PC Tryz.prog [] 110 [D.v (.int .u64 12)] (fun d=>∃ k,d=I k):=by
 refine PC.of (N:=8) Tryz.func110 rfl rfl (Nat.le_of_ble_eq_true rfl) ?_
 refine PW.a [0] 0 (PW.seq (PW.cd false (fun hz0=>by cases hz0) (fun hz0 => ?_)))
 refine PW.k (PW.w 1 [6] 0 (PL.cl (f:=149) (ds:=[D.v (.int .u64 12)]) (len64_pc_12) ?_))
 rintro _ ⟨k,rfl⟩
 refine PL.n 1 [2] 0 (PW.ret (rq (I k) ?_))
 exact ⟨_,rfl⟩
theorem len_pc (n:Nat) (h:n≤12):PC Tryz.prog [] 110 [D.v (.int .u64 (IntKind.u64.wrap (n:Int)))] (fun d=>∃ k,d=I k):=match n,h with
 | 0,_=>len_pc_0
 | 1,_=>len_pc_1
 | 2,_=>len_pc_2
 | 3,_=>len_pc_3
 | 4,_=>len_pc_4
 | 5,_=>len_pc_5
 | 6,_=>len_pc_6
 | 7,_=>len_pc_7
 | 8,_=>len_pc_8
 | 9,_=>len_pc_9
 | 10,_=>len_pc_10
 | 11,_=>len_pc_11
 | 12,_=>len_pc_12
 | n+13,h=>absurd h oM
def Srt (ys:List Port) (k:Nat):Prop:=∀ a b,a<b→b<k→(ys.getD a default).node≤(ys.getD b default).node
def But (ys:List Port) (i j:Nat):Prop:=(∀ a b,a<b→b≤i→a≠j→b≠j→(ys.getD a default).node≤(ys.getD b default).node)∧∀ b,j<b→b≤i→(ys.getD j default).node≤(ys.getD b default).node
theorem but_first {ys:List Port} {i:Nat} (h:Srt ys i):But ys i i:=⟨fun a b hab hb ha hbi=>h a b hab oM,fun b h1 h2=>by omega⟩
theorem but_last {ys:List Port} {i j:Nat} (h:But ys i j) (hj:¬ (0<j∧(ys.getD j default).node<(ys.getD (j-1) default).node)):Srt ys (i+1):=by
 intro a b hab hb
 by_cases h1:a=j
 ·subst h1; exact h.2 b hab oM
 ·by_cases h2:b=j
  ·subst h2
   have h3:¬ (ys.getD b default).node<(ys.getD (b-1) default).node:=fun h=>hj ⟨by omega,h⟩
   by_cases h4:a=b-1
   ·subst h4; omega
   ·have:=h.1 a (b-1) oM oM h1 oM
    omega
  ·exact h.1 a b hab oM h1 h2
theorem but_step {ys:List Port} {i j:Nat} (hj:0<j) (hji:j≤i) (hi:i<ys.length) (h:But ys i j) (hlt:(ys.getD j default).node<(ys.getD (j-1) default).node):But ((ys.set j (ys.getD (j-1) default)).set (j-1) (ys.getD j default)) i (j-1):=by
 have g:∀ k,((ys.set j (ys.getD (j-1) default)).set (j-1) (ys.getD j default)).getD k default=if k=j-1 then ys.getD j default else if k=j then ys.getD (j-1) default else ys.getD k default:=fun k=>by
  rw [getD_set (hi:=by rw [List.length_set]; omega),getD_set (hi:=by omega)]
 refine ⟨fun a b hab hb ha hbj => ?_,fun b h1 h2 => ?_⟩
 ·rw [g,g,if_neg ha,if_neg hbj]
  by_cases h1:a=j
  ·rw [if_pos h1,if_neg oM]; exact h.1 _ b oM hb oM oM
  ·rw [if_neg h1]
   by_cases h2:b=j
   ·rw [if_pos h2]; exact h.1 a _ oM oM h1 oM
   ·rw [if_neg h2]; exact h.1 a b hab hb h1 h2
 ·rw [g,g,if_pos rfl,if_neg oM]
  by_cases h3:b=j
  ·rw [if_pos h3]; omega
  ·rw [if_neg h3]; exact h.2 b oM h2
theorem swap_perm {ys:List Port} {j:Nat} (hj:0<j) (hi:j<ys.length):((ys.set j (ys.getD (j-1) default)).set (j-1) (ys.getD j default)).Perm ys:=by
 have e1:ys.getD (j-1) default=ys[j-1]'oM:=by simp [List.getD_eq_getElem?_getD,List.getElem?_eq_getElem (show j-1<ys.length by omega)]
 have e2:ys.getD j default=ys[j]'hi:=by simp [List.getD_eq_getElem?_getD,List.getElem?_eq_getElem hi]
 rw [e1,e2]
 exact List.set_set_perm hi oM
theorem wrapm (j:Nat) (h:0<j) (hb:j<4611686018427387904):IntKind.i64.wrap ((j:Int)-1)=((j-1:Nat):Int):=by rw [Ev.wrap_i64 oM oM]; omega
theorem but_exit {zs:List Port} {q:Nat} (hz:¬ ((q:Int)>0)∨¬ (zs.getD q default).node<(zs.getD (IntKind.i64.wrap ((q:Int)-1)).toNat default).node) (hj:0<q→IntKind.i64.wrap ((q:Int)-1)=((q-1:Nat):Int)):¬ (0<q∧(zs.getD q default).node<(zs.getD (q-1) default).node):=by
 rintro ⟨h1,h2⟩
 rcases hz with h|h
 ·omega
 ·rw [hj h1] at h; exact h h2
theorem insertionSort_pm (xs:List Port) (n:Nat) (hx:xs.length=n) (hn:n≤12):PM Tryz.prog [] 140 [D.h 0 n,I 0,I (n:Int),D.v (.func (.func 82) #[] #[])] (Obj.row 76 4 n (fun j=>[I ((xs.getD j default).node),I ((xs.getD j default).link),I ((xs.getD j default).gate),I ((xs.getD j default).side)])) (fun d ob=>d=D.t []∧∃ ys:List Port,ob=Obj.row 76 4 n (fun j=>[I ((ys.getD j default).node),I ((ys.getD j default).link),I ((ys.getD j default).gate),I ((ys.getD j default).side)])∧ys.Perm xs∧Srt ys n):=by
 refine PM.of (N:=53) Tryz.func140 rfl rfl (Nat.le_of_ble_eq_true rfl) ?_
 refine PW.a [0,1,2,3,8] 1 (PW.block (PW.lp (α := Nat×List Port) (fun (i,ys)=>{ tab:=[⟨0,[],D.h 0 n⟩,⟨1,[],I 0⟩,⟨2,[],I (n:Int)⟩,⟨3,[],D.v (.func (.func 82) #[] #[])⟩,⟨8,[],I (i:Int)⟩],mem:=[Obj.row 76 4 n (fun j=>[I ((ys.getD j default).node),I ((ys.getD j default).link),I ((ys.getD j default).gate),I ((ys.getD j default).side)])],fx:=1 }) (fun (i,ys)=>1≤i∧i≤n+1∧ys.Perm xs∧Srt ys i) (fun (i,ys)=>n+1-i) [0,1,2,3,8] 1 (1,xs) ?_ ?_))
 ·dsimp only
  exact ⟨Nat.le_refl _,by omega,.refl _,fun a b h1 h2=>by omega⟩
 rintro ⟨i,ys⟩ hinv
 dsimp only at hinv
 have hyl:ys.length=n:=hinv.2.2.1.length_eq.trans hx
 show PW _ _ _ _ _
 refine PW.q [0,1,2,3,8,14] 1 (PW.cd (decide ((i:Int)<(n:Int))) ?_ ?_) <;> intro hz0 <;> try simp only [boolS,cmpI_lt] at hz0
 ·refine PW.k (PW.seq (PW.block (PW.a [0,1,2,3,8,9] 1 (PW.block (PW.lp (α := Nat×List Port) (fun (q,zs)=>{ tab:=[⟨0,[],D.h 0 n⟩,⟨1,[],I 0⟩,⟨2,[],I (n:Int)⟩,⟨3,[],D.v (.func (.func 82) #[] #[])⟩,⟨8,[],I (i:Int)⟩,⟨9,[],I (q:Int)⟩],mem:=[Obj.row 76 4 n (fun j=>[I ((zs.getD j default).node),I ((zs.getD j default).link),I ((zs.getD j default).gate),I ((zs.getD j default).side)])],fx:=1 }) (fun (q,zs)=>q≤i∧zs.Perm ys∧But zs i q) (fun (q,zs)=>q) [0,1,2,3,8,9] 1 (i,ys) ?_ ?_)))))
  ·dsimp only
   exact ⟨Nat.le_refl _,.refl _,but_first hinv.2.2.2⟩
  rintro ⟨q,zs⟩ hk
  dsimp only at hk
  have hzl:zs.length=n:=hk.2.1.length_eq.trans hyl
  have hj:0<q→IntKind.i64.wrap ((q:Int)-1)=((q-1:Nat):Int):=fun h=>wrapm q h oM
  show PW _ _ _ _ _
  refine PW.seq (PW.seq (PW.open [] kR (PO.tk [0,1,2,3,4,5,6,7,8,9,10,11,12,13] 17 [0,1,2,3,8,9,21,22,26,31] 3 (p:=(((decide ((q:Int)>(0:Int)))=true∧True→0≤(q:Int)∧(q:Int)<(n:Int)))∧(((decide ((q:Int)>(0:Int)))=true∧True→q<n))∧(((decide ((q:Int)>(0:Int)))=true∧True→0≤(IntKind.i64.wrap ((q:Int)-1))∧(IntKind.i64.wrap ((q:Int)-1))<(n:Int)))∧(((decide ((q:Int)>(0:Int)))=true∧True→(IntKind.i64.wrap ((q:Int)-1)).toNat<n))) nD (fun _ _ h=>h) (PO.one (n:=2) 14 kR ?_))))
  refine PO1.gc _ (A:=[(21,true)]) (fun _=>portCmp_pc (zs.getD q default) (zs.getD ((IntKind.i64.wrap ((q:Int)-1)).toNat) default)) ?_ rfl
  refine PO.a [15,16] 2 [0,1,2,3,8,9,34] 0 (PO.done kR ?_)
  show PW _ _ _ _ _
  refine PW.cd ((decide ((q:Int)>(0:Int)))&&(decide ((cmpI (zs.getD q default).node (zs.getD ((IntKind.i64.wrap ((q:Int)-1)).toNat) default).node)<(0:Int)))) ?_ ?_ <;> intro hz1 <;> try simp only [boolS,cmpI_lt] at hz1
  ·refine PW.k (PW.seq (PW.block (PW.open [0] kR (PO.tk [0,1,2,3,4,5,6,7,8,10,11,12] 18 [0,1,2,3,8,9,37,38,39,41,45,49] 6 (p:=(0≤(IntKind.i64.wrap ((q:Int)-1))∧(IntKind.i64.wrap ((q:Int)-1))<(n:Int))∧(0≤(q:Int)∧(q:Int)<(n:Int))) oM (fun _ _ h=>h) (PO.next (n:=5) [9,13] kR (by simp) ?_)))))
   intro i hi
   simp only [List.mem_cons,List.not_mem_nil,or_false] at hi
   rcases hi with rfl|rfl
   ·skip
    refine PO1.val [0,1,2,3,8,9,37,38,39,41,46,49] 1 (s':={ tab:=[⟨0,[],D.h 0 n⟩,⟨1,[],I 0⟩,⟨2,[],I (n:Int)⟩,⟨3,[],D.v (.func (.func 82) #[] #[])⟩,⟨8,[],I (i:Int)⟩,⟨9,[],I (q:Int)⟩,⟨37,[],D.h 0 n⟩,⟨38,[],I (q:Int)⟩,⟨39,[],D.h 0 n⟩,⟨41,[],I (IntKind.i64.wrap ((q:Int)-1))⟩,⟨46,[],D.r [I ((zs.getD ((IntKind.i64.wrap ((q:Int)-1)).toNat) default).node),I ((zs.getD ((IntKind.i64.wrap ((q:Int)-1)).toNat) default).link),I ((zs.getD ((IntKind.i64.wrap ((q:Int)-1)).toNat) default).gate),I ((zs.getD ((IntKind.i64.wrap ((q:Int)-1)).toNat) default).side)]⟩,⟨49,[],D.p 0 4 q 0⟩],mem:=[Obj.row 76 4 n (fun j=>[I ((zs.getD j default).node),I ((zs.getD j default).link),I ((zs.getD j default).gate),I ((zs.getD j default).side)])],fx:=1 }) (p:=((IntKind.i64.wrap ((q:Int)-1)).toNat<n)) rfl kR kR kR kR kR kR kR kR nD (PO.one (n:=4) 13 kR (PO1.val [0,1,2,3,8,9,37,38,39,41,46,50] 1 (s':={ tab:=[⟨0,[],D.h 0 n⟩,⟨1,[],I 0⟩,⟨2,[],I (n:Int)⟩,⟨3,[],D.v (.func (.func 82) #[] #[])⟩,⟨8,[],I (i:Int)⟩,⟨9,[],I (q:Int)⟩,⟨37,[],D.h 0 n⟩,⟨38,[],I (q:Int)⟩,⟨39,[],D.h 0 n⟩,⟨41,[],I (IntKind.i64.wrap ((q:Int)-1))⟩,⟨46,[],D.r [I ((zs.getD ((IntKind.i64.wrap ((q:Int)-1)).toNat) default).node),I ((zs.getD ((IntKind.i64.wrap ((q:Int)-1)).toNat) default).link),I ((zs.getD ((IntKind.i64.wrap ((q:Int)-1)).toNat) default).gate),I ((zs.getD ((IntKind.i64.wrap ((q:Int)-1)).toNat) default).side)]⟩,⟨50,[],D.r [I ((zs.getD q default).node),I ((zs.getD q default).link),I ((zs.getD q default).gate),I ((zs.getD q default).side)]⟩],mem:=[Obj.row 76 4 n (fun j=>[I ((zs.getD j default).node),I ((zs.getD j default).link),I ((zs.getD j default).gate),I ((zs.getD j default).side)])],fx:=1 }) (p:=(q<n)) rfl kR kR kR kR kR kR kR kR nD (PO.tk [14] 4 [0,1,2,3,8,9,39,41,46,50,51] 3 (p:=(0≤(q:Int)∧(q:Int)<(n:Int))) oM (fun _ _ h=>h) (PO.one (n:=2) 15 kR (PO1.mm rfl [0,1,2,3,8,9,39,41,50] 1 (p:=(q<n)) oM (PO.st 0 (fun x=>[I (x.node),I (x.link),I (x.gate),I (x.side)]) zs q (zs.getD ((IntKind.i64.wrap ((q:Int)-1)).toNat) default) (PO.tk [16] 2 [0,1,2,3,8,9,50,52] 1 (p:=(0≤(IntKind.i64.wrap ((q:Int)-1))∧(IntKind.i64.wrap ((q:Int)-1))<(n:Int))) oM (fun _ _ h=>h) ?_)))))))
    refine PO.one (n:=0) 17 kR (PO1.mm rfl [0,1,2,3,8,9] 1 (p:=((IntKind.i64.wrap ((q:Int)-1)).toNat<n)) oM (PO.st 0 (fun x=>[I (x.node),I (x.link),I (x.gate),I (x.side)]) (zs.set q (zs.getD ((IntKind.i64.wrap ((q:Int)-1)).toNat) default)) ((IntKind.i64.wrap ((q:Int)-1)).toNat) (zs.getD q default) (PO.done kR ?_)))
    show PW _ _ _ _ _
    refine PW.b [0,1,2,3,8,9] 1 ?_
    refine BackR.of (s1:={ tab:=[⟨0,[],D.h 0 n⟩,⟨1,[],I 0⟩,⟨2,[],I (n:Int)⟩,⟨3,[],D.v (.func (.func 82) #[] #[])⟩,⟨8,[],I (i:Int)⟩,⟨9,[],I (IntKind.i64.wrap ((q:Int)-1))⟩],mem:=[Obj.row 76 4 n (fun j=>[I ((((zs.set q (zs.getD ((IntKind.i64.wrap ((q:Int)-1)).toNat) default)).set ((IntKind.i64.wrap ((q:Int)-1)).toNat) (zs.getD q default)).getD j default).node),I ((((zs.set q (zs.getD ((IntKind.i64.wrap ((q:Int)-1)).toNat) default)).set ((IntKind.i64.wrap ((q:Int)-1)).toNat) (zs.getD q default)).getD j default).link),I ((((zs.set q (zs.getD ((IntKind.i64.wrap ((q:Int)-1)).toNat) default)).set ((IntKind.i64.wrap ((q:Int)-1)).toNat) (zs.getD q default)).getD j default).gate),I ((((zs.set q (zs.getD ((IntKind.i64.wrap ((q:Int)-1)).toNat) default)).set ((IntKind.i64.wrap ((q:Int)-1)).toNat) (zs.getD q default)).getD j default).side)])],fx:=1 }) (q-1,(zs.set q (zs.getD (q-1) default)).set (q-1) (zs.getD q default)) kR kR ?_ ?_ ?_
    ·dsimp only
     rw [hj oM]
     exact Rem.refl _
    ·dsimp only
     have hq0:0<q:=by omega
     have hz2:=hz1.2
     rw [hj hq0] at hz2
     exact ⟨by omega,(swap_perm hq0 oM).trans hk.2.1,but_step hq0 hk.1 oM hk.2.2 hz2⟩
    ·dsimp only
     exact nD
   ·skip
    refine PO1.val [0,1,2,3,8,9,37,38,39,41,45,50] 1 (s':={ tab:=[⟨0,[],D.h 0 n⟩,⟨1,[],I 0⟩,⟨2,[],I (n:Int)⟩,⟨3,[],D.v (.func (.func 82) #[] #[])⟩,⟨8,[],I (i:Int)⟩,⟨9,[],I (q:Int)⟩,⟨37,[],D.h 0 n⟩,⟨38,[],I (q:Int)⟩,⟨39,[],D.h 0 n⟩,⟨41,[],I (IntKind.i64.wrap ((q:Int)-1))⟩,⟨45,[],D.p 0 4 ((IntKind.i64.wrap ((q:Int)-1)).toNat) 0⟩,⟨50,[],D.r [I ((zs.getD q default).node),I ((zs.getD q default).link),I ((zs.getD q default).gate),I ((zs.getD q default).side)]⟩],mem:=[Obj.row 76 4 n (fun j=>[I ((zs.getD j default).node),I ((zs.getD j default).link),I ((zs.getD j default).gate),I ((zs.getD j default).side)])],fx:=1 }) (p:=(q<n)) rfl kR kR kR kR kR kR kR kR nD (PO.one (n:=4) 9 kR (PO1.val [0,1,2,3,8,9,37,38,39,41,46,50] 1 (s':={ tab:=[⟨0,[],D.h 0 n⟩,⟨1,[],I 0⟩,⟨2,[],I (n:Int)⟩,⟨3,[],D.v (.func (.func 82) #[] #[])⟩,⟨8,[],I (i:Int)⟩,⟨9,[],I (q:Int)⟩,⟨37,[],D.h 0 n⟩,⟨38,[],I (q:Int)⟩,⟨39,[],D.h 0 n⟩,⟨41,[],I (IntKind.i64.wrap ((q:Int)-1))⟩,⟨46,[],D.r [I ((zs.getD ((IntKind.i64.wrap ((q:Int)-1)).toNat) default).node),I ((zs.getD ((IntKind.i64.wrap ((q:Int)-1)).toNat) default).link),I ((zs.getD ((IntKind.i64.wrap ((q:Int)-1)).toNat) default).gate),I ((zs.getD ((IntKind.i64.wrap ((q:Int)-1)).toNat) default).side)]⟩,⟨50,[],D.r [I ((zs.getD q default).node),I ((zs.getD q default).link),I ((zs.getD q default).gate),I ((zs.getD q default).side)]⟩],mem:=[Obj.row 76 4 n (fun j=>[I ((zs.getD j default).node),I ((zs.getD j default).link),I ((zs.getD j default).gate),I ((zs.getD j default).side)])],fx:=1 }) (p:=((IntKind.i64.wrap ((q:Int)-1)).toNat<n)) rfl kR kR kR kR kR kR kR kR nD (PO.tk [14] 4 [0,1,2,3,8,9,39,41,46,50,51] 3 (p:=(0≤(q:Int)∧(q:Int)<(n:Int))) oM (fun _ _ h=>h) (PO.one (n:=2) 15 kR (PO1.mm rfl [0,1,2,3,8,9,39,41,50] 1 (p:=(q<n)) oM (PO.st 0 (fun x=>[I (x.node),I (x.link),I (x.gate),I (x.side)]) zs q (zs.getD ((IntKind.i64.wrap ((q:Int)-1)).toNat) default) (PO.tk [16] 2 [0,1,2,3,8,9,50,52] 1 (p:=(0≤(IntKind.i64.wrap ((q:Int)-1))∧(IntKind.i64.wrap ((q:Int)-1))<(n:Int))) oM (fun _ _ h=>h) ?_)))))))
    refine PO.one (n:=0) 17 kR (PO1.mm rfl [0,1,2,3,8,9] 1 (p:=((IntKind.i64.wrap ((q:Int)-1)).toNat<n)) oM (PO.st 0 (fun x=>[I (x.node),I (x.link),I (x.gate),I (x.side)]) (zs.set q (zs.getD ((IntKind.i64.wrap ((q:Int)-1)).toNat) default)) ((IntKind.i64.wrap ((q:Int)-1)).toNat) (zs.getD q default) (PO.done kR ?_)))
    show PW _ _ _ _ _
    refine PW.b [0,1,2,3,8,9] 1 ?_
    refine BackR.of (s1:={ tab:=[⟨0,[],D.h 0 n⟩,⟨1,[],I 0⟩,⟨2,[],I (n:Int)⟩,⟨3,[],D.v (.func (.func 82) #[] #[])⟩,⟨8,[],I (i:Int)⟩,⟨9,[],I (IntKind.i64.wrap ((q:Int)-1))⟩],mem:=[Obj.row 76 4 n (fun j=>[I ((((zs.set q (zs.getD ((IntKind.i64.wrap ((q:Int)-1)).toNat) default)).set ((IntKind.i64.wrap ((q:Int)-1)).toNat) (zs.getD q default)).getD j default).node),I ((((zs.set q (zs.getD ((IntKind.i64.wrap ((q:Int)-1)).toNat) default)).set ((IntKind.i64.wrap ((q:Int)-1)).toNat) (zs.getD q default)).getD j default).link),I ((((zs.set q (zs.getD ((IntKind.i64.wrap ((q:Int)-1)).toNat) default)).set ((IntKind.i64.wrap ((q:Int)-1)).toNat) (zs.getD q default)).getD j default).gate),I ((((zs.set q (zs.getD ((IntKind.i64.wrap ((q:Int)-1)).toNat) default)).set ((IntKind.i64.wrap ((q:Int)-1)).toNat) (zs.getD q default)).getD j default).side)])],fx:=1 }) (q-1,(zs.set q (zs.getD (q-1) default)).set (q-1) (zs.getD q default)) kR kR ?_ ?_ ?_
    ·dsimp only
     rw [hj oM]
     exact Rem.refl _
    ·dsimp only
     have hq0:0<q:=by omega
     have hz2:=hz1.2
     rw [hj hq0] at hz2
     exact ⟨by omega,(swap_perm hq0 oM).trans hk.2.1,but_step hq0 hk.1 oM hk.2.2 hz2⟩
    ·dsimp only
     exact nD
  ·refine PW.e (PW.b [0,1,2,3,8] 1 ?_)
   refine BackR.of (s1:={ tab:=[⟨0,[],D.h 0 n⟩,⟨1,[],I 0⟩,⟨2,[],I (n:Int)⟩,⟨3,[],D.v (.func (.func 82) #[] #[])⟩,⟨8,[],I (IntKind.i64.wrap ((i:Int)+1))⟩],mem:=[Obj.row 76 4 n (fun j=>[I ((zs.getD j default).node),I ((zs.getD j default).link),I ((zs.getD j default).gate),I ((zs.getD j default).side)])],fx:=1 }) (i+1,zs) kR kR ?_ ?_ ?_
   ·dsimp only
    rw [wrap1 i oM]
    exact Rem.refl _
   ·dsimp only
    exact ⟨by omega,by omega,hk.2.1.trans hinv.2.2.1,but_last hk.2.2 (but_exit hz1 hj)⟩
   ·dsimp only
    exact nD
 ·refine PW.exit ?_
  refine retM_normal (d:=D.t []) (ps:=[]) (ob:=Obj.row 76 4 n (fun j=>[I ((ys.getD j default).node),I ((ys.getD j default).link),I ((ys.getD j default).gate),I ((ys.getD j default).side)])) kR trivial kR kR ?_
  exact ⟨rfl,ys,rfl,hinv.2.2.1,fun a b h1 h2=>hinv.2.2.2 a b h1 oM⟩
theorem wrap0 (n:Nat) (h:n≤12):IntKind.i64.wrap ((n:Int)-0)=(n:Int):=by rw [Ev.wrap_i64 oM oM]; omega
theorem pdqsort_pm (xs:List Port) (n:Nat) (hx:xs.length=n) (hn:n≤12) (k:Int):PM Tryz.prog [] 109 [D.h 0 n,I 0,I (n:Int),I k,D.v (.func (.func 82) #[] #[])] (Obj.row 76 4 n (fun j=>[I ((xs.getD j default).node),I ((xs.getD j default).link),I ((xs.getD j default).gate),I ((xs.getD j default).side)])) (fun d ob=>d=D.t []∧∃ ys:List Port,ob=Obj.row 76 4 n (fun j=>[I ((ys.getD j default).node),I ((ys.getD j default).link),I ((ys.getD j default).gate),I ((ys.getD j default).side)])∧ys.Perm xs∧Srt ys n):=by
 refine PM.of (N:=148) Tryz.func109 rfl rfl (Nat.le_of_ble_eq_true rfl) ?_
 refine PW.a [0,1,2,3,4,10] 1 (PW.a [0,1,2,3,4,10,11] 1 (PW.block (PW.rounds 1 ?_)))
 refine PR.succ ?_
 refine PW.block (PW.a [0,1,2,3,4,10,11,12] 1 (PW.q [0,1,2,3,4,10,11,12,25] 1 (PW.cd (decide ((IntKind.i64.wrap ((n:Int)-0))≤(12:Int))) ?_ ?_))) <;> intro hz0 <;> try simp only [boolS,isB_true,isB_false] at hz0
 ·refine PW.w 4 [26,27,28,29] 1 (PL.cm (f:=140) (ds:=[D.h 0 n,I 0,I (n:Int),D.v (.func (.func 82) #[] #[])]) (ob:=Obj.row 76 4 n (fun j=>[I ((xs.getD j default).node),I ((xs.getD j default).link),I ((xs.getD j default).gate),I ((xs.getD j default).side)])) 0 (insertionSort_pm xs n hx hn) ?_)
  rintro _ _ ⟨rfl,ys,rfl,hp,hs⟩
  refine PL.nl (PW.ret ?_)
  refine retM_ret (d:=D.t []) (ps:=[]) (ob:=Obj.row 76 4 n (fun j=>[I ((ys.getD j default).node),I ((ys.getD j default).link),I ((ys.getD j default).gate),I ((ys.getD j default).side)])) kR trivial kR kR ?_
  exact ⟨rfl,ys,rfl,hp,hs⟩
 ·refine PW.k (PW.seq (PW.seq ?_))
  exfalso; rw [wrap0 n hn] at hz0; omega
theorem sortFunc_pm (xs:List Port) (n:Nat) (hx:xs.length=n) (hn:n≤12):PM Tryz.prog [] 81 [D.h 0 n,D.v (.func (.func 82) #[] #[])] (Obj.row 76 4 n (fun j=>[I ((xs.getD j default).node),I ((xs.getD j default).link),I ((xs.getD j default).gate),I ((xs.getD j default).side)])) (fun d ob=>d=D.t []∧∃ ys:List Port,ob=Obj.row 76 4 n (fun j=>[I ((ys.getD j default).node),I ((ys.getD j default).link),I ((ys.getD j default).gate),I ((ys.getD j default).side)])∧ys.Perm xs∧Srt ys n):=by
 refine PM.of (N:=14) Tryz.func81 rfl rfl (Nat.le_of_ble_eq_true rfl) ?_
 refine PW.a [0,1,4] 1 (PW.region (PL.a 4 [1,7,8,10] 1 (PL.cl (f:=110) (ds:=[D.v (.int .u64 (IntKind.u64.wrap (n:Int)))]) (len_pc n hn) ?_)))
 rintro _ ⟨k,rfl⟩
 refine PL.a 1 [7,8,11,12] 1 (PL.cm (f:=109) (ds:=[D.h 0 n,I 0,I (n:Int),I k,D.v (.func (.func 82) #[] #[])]) (ob:=Obj.row 76 4 n (fun j=>[I ((xs.getD j default).node),I ((xs.getD j default).link),I ((xs.getD j default).gate),I ((xs.getD j default).side)])) 0 (pdqsort_pm xs n hx hn k) ?_)
 rintro _ _ ⟨rfl,ys,rfl,hp,hs⟩
 refine PL.nil ?_
 refine retM_normal (d:=D.t []) (ps:=[]) (ob:=Obj.row 76 4 n (fun j=>[I ((ys.getD j default).node),I ((ys.getD j default).link),I ((ys.getD j default).gate),I ((ys.getD j default).side)])) kR trivial kR kR ?_
 exact ⟨rfl,ys,rfl,hp,hs⟩
set_option maxHeartbeats 1000000
def portsAt (l:Link) (i:Nat) (part:Int):List Port:=(if l.a=part then [⟨l.pa0,i,0,0⟩,⟨l.pa1,i,1,0⟩] else [])++(if l.b=part then [⟨l.pb0,i,0,1⟩,⟨l.pb1,i,1,1⟩] else [])
def rawN (ls:List Link) (part:Int):Nat→List Port
 | 0=>[]
 | n+1=>rawN ls part n++portsAt (ls.getD n default) n part
theorem rawN_len (ls:List Link) (part:Int):∀ n,(rawN ls part n).length≤4*n
 | 0=>Nat.le_refl _
 | n+1=>by
  have:=rawN_len ls part n
  have h2:(portsAt (ls.getD n default) n part).length≤4:=by unfold portsAt; split <;> split <;> simp
  rw [rawN,List.length_append]
  omega
def portsL (c:Config) (part:Int):List Port:=(List.range (c.parts.getD part.toNat default).nodes.toNat).filterMap fun (k:Nat)=>portP c.links part (k:Int) c.links.length
def portsOf (c:Config) (part:Int):List Port:=if (checkP c).1=0∧isB part c.parts.length=true then portsL c part else []
theorem portAt_mem {l:Link} {i:Nat} {part node:Int} {p:Port} (h:portAt l i part node=some p):p ∈ portsAt l i part∧p.node=node:=by
 unfold portAt at h
 unfold portsAt
 grind
theorem portAt_none {l:Link} {i:Nat} {part node:Int} (h:portAt l i part node=none):∀ q ∈ portsAt l i part,q.node≠node:=by
 unfold portAt at h
 unfold portsAt
 grind
theorem portP_mem {ls:List Link} {part node:Int}:∀ {n:Nat} {p:Port},portP ls part node n=some p→p ∈ rawN ls part n∧p.node=node
 | 0,p,h=>by cases h
 | n+1,p,h=>by
  unfold portP at h
  split at h
  ·rename_i q hq
   injection h with h
   subst h
   have:=portP_mem hq
   exact ⟨List.mem_append_left _ this.1,this.2⟩
  ·have:=portAt_mem h
   exact ⟨List.mem_append_right _ this.1,this.2⟩
theorem portP_none {ls:List Link} {part node:Int}:∀ {n:Nat},portP ls part node n=none→∀ q ∈ rawN ls part n,q.node≠node
 | 0,_,q,hq=>by cases hq
 | n+1,h,q,hq=>by
  unfold portP at h
  split at h
  ·cases h
  ·rename_i hn
   rcases List.mem_append.1 hq with h1|h1
   ·exact portP_none hn q h1
   ·exact portAt_none h q h1
structure Good (c:Config):Prop where
 len:1≤c.parts.length∧c.parts.length≤6
 links:c.links.length≤10
 part:∀ i,i<c.parts.length→unsoundB (c.parts.getD i default)=false
 link:∀ i,i<c.links.length→linkE c i=0
 near:∀ i,i<c.parts.length→0≤(distsL c 0).getD i default
theorem good_of {c:Config} (h:(checkP c).1=0):Good c:=by
 rw [check_same] at h
 unfold checkR at h
 split at h
 ·simp at h
 ·rename_i h0
  split at h
  ·simp at h
  ·rename_i h1
   split at h
   ·simp at h
   ·rename_i h2
    split at h
    ·rename_i i hi
     have:=findN_is hi
     simp only [bne_iff_ne,ne_eq] at this
     exact absurd h this
    ·rename_i h3
     split at h
     ·simp at h
     ·rename_i h4
      exact ⟨by omega,by omega,findN_none h1,fun i hi=>by simpa using findN_none h3 i hi,fun i hi=>by simpa using findN_none h4 i hi⟩
theorem good_link {c:Config} (h:Good c) {i:Nat} (hi:i<c.links.length) :
  (0≤(c.links.getD i default).a∧(c.links.getD i default).a<(c.links.getD i default).b∧(c.links.getD i default).b<(c.parts.length:Int)) ∧
  endsB c i (c.links.getD i default).a (c.links.getD i default).pa0 (c.links.getD i default).pa1=false∧endsB c i (c.links.getD i default).b (c.links.getD i default).pb0 (c.links.getD i default).pb1=false:=by
 have hl:=h.link i hi
 unfold linkE at hl
 split at hl
 ·simp at hl
 ·rename_i h1
  split at hl
  ·simp at hl
  ·split at hl
   ·simp at hl
   ·rename_i h3
    simp only [Bool.or_eq_true,Bool.not_eq_true',isB_false,decide_eq_true_eq,not_or,Classical.not_not] at h1
    simp only [Bool.or_eq_true,not_or,Bool.not_eq_true] at h3
    exact ⟨by omega,h3.1,h3.2⟩
theorem ends_no {c:Config} {i:Nat} {part p0 p1:Int} (h:endsB c i part p0 p1=false):p0≠p1∧(0≤p0∧p0<(c.parts.getD part.toNat default).nodes)∧(0≤p1∧p1<(c.parts.getD part.toNat default).nodes)∧portP c.links part p0 i=none∧portP c.links part p1 i=none:=by
 unfold endsB at h
 simp only [Bool.or_eq_false_iff,Bool.not_eq_false',beq_eq_false_iff_ne,isB_true,Option.isSome_eq_false_iff,Option.isNone_iff_eq_none] at h
 exact ⟨h.1.1,h.1.2.1,h.2.1,h.1.2.2,h.2.2⟩
theorem raw_in {c:Config} (h:Good c) {part:Int}:∀ n,n≤c.links.length→(∀ p ∈ rawN c.links part n,0≤part∧part<(c.parts.length:Int)∧0≤p.node∧p.node<(c.parts.getD part.toNat default).nodes)∧(rawN c.links part n).Pairwise fun p q=>p.node≠q.node
  | 0,_=>⟨fun p hp=>absurd hp (List.not_mem_nil),List.Pairwise.nil⟩
  | n+1,hn=>by
    obtain ⟨ih1,ih2⟩:=raw_in h n oM
    obtain ⟨h1,h2,h3⟩:=good_link h (i:=n) oM
    obtain ⟨a1,a2,a3,a4,a5⟩:=ends_no h2
    obtain ⟨b1,b2,b3,b4,b5⟩:=ends_no h3
    have pa4:=portP_none a4
    have pa5:=portP_none a5
    have pb4:=portP_none b4
    have pb5:=portP_none b5
    refine ⟨fun p hp => ?_,?_⟩
    · rcases List.mem_append.1 hp with h4|h4
      · exact ih1 p h4
      · unfold portsAt at h4
        rcases List.mem_append.1 h4 with h5|h5
        · split at h5
          · rename_i e
            subst e
            simp only [List.mem_cons,List.not_mem_nil,or_false] at h5
            rcases h5 with rfl|rfl
            · exact ⟨by omega,by omega,a2.1,a2.2⟩
            · exact ⟨by omega,by omega,a3.1,a3.2⟩
          · cases h5
        · split at h5
          · rename_i e
            subst e
            simp only [List.mem_cons,List.not_mem_nil,or_false] at h5
            rcases h5 with rfl|rfl
            · exact ⟨by omega,by omega,b2.1,b2.2⟩
            · exact ⟨by omega,by omega,b3.1,b3.2⟩
          · cases h5
    · show (rawN c.links part n++portsAt (c.links.getD n default) n part).Pairwise _
      rw [List.pairwise_append]
      refine ⟨ih2,?_,fun p hp q hq => ?_⟩
      · unfold portsAt
        by_cases e1:(c.links.getD n default).a=part
        · have e2:¬ (c.links.getD n default).b=part:=by omega
          rw [if_pos e1,if_neg e2]
          simpa using a1
        · rw [if_neg e1]
          by_cases e2:(c.links.getD n default).b=part
          · rw [if_pos e2]; simpa using b1
          · rw [if_neg e2]; simp
      · unfold portsAt at hq
        rcases List.mem_append.1 hq with h5|h5
        · split at h5
          · rename_i e
            subst e
            simp only [List.mem_cons,List.not_mem_nil,or_false] at h5
            rcases h5 with rfl|rfl
            · exact pa4 p hp
            · exact pa5 p hp
          · cases h5
        · split at h5
          · rename_i e
            subst e
            simp only [List.mem_cons,List.not_mem_nil,or_false] at h5
            rcases h5 with rfl|rfl
            · exact pb4 p hp
            · exact pb5 p hp
          · cases h5
theorem portsL_sorted (c:Config) (part:Int):(portsL c part).Pairwise fun p q=>p.node<q.node:=by
 unfold portsL
 rw [List.pairwise_filterMap]
 refine List.Pairwise.imp_of_mem (R:=fun a b=>a<b) ?_ List.pairwise_lt_range
 intro a b _ _ hab p hp q hq
 rw [(portP_mem hp).2,(portP_mem hq).2]
 omega
theorem nodup_of {l:List Port} (h:l.Pairwise fun p q=>p.node≠q.node):l.Nodup:=h.imp fun hne e=>hne (by rw [e])
theorem inj_of:∀ {l:List Port},(l.Pairwise fun p q=>p.node≠q.node)→∀ p,p ∈ l→∀ q,q ∈ l→p.node=q.node→p=q
 | [],_,p,hp,q,hq,e=>by cases hp
 | x::r,h,p,hp,q,hq,e=>by
  obtain ⟨h1,h2⟩:=List.pairwise_cons.1 h
  rcases List.mem_cons.1 hp with h3|h3
  ·rcases List.mem_cons.1 hq with h4|h4
   ·rw [h3,h4]
   ·exact absurd (by rw [← h3]; exact e) (h1 q h4)
  ·rcases List.mem_cons.1 hq with h4|h4
   ·exact absurd (by rw [← h4]; exact e.symm) (h1 p h3)
   ·exact inj_of h2 p h3 q h4 e
theorem raw_perm {c:Config} (h:Good c) {part:Int} (hp:0≤part∧part<(c.parts.length:Int)):(rawN c.links part c.links.length).Perm (portsL c part):=by
 obtain ⟨h1,h2⟩:=raw_in h (part:=part) c.links.length (Nat.le_refl _)
 refine (List.perm_ext_iff_of_nodup (nodup_of h2) (nodup_of ((portsL_sorted c part).imp fun h=>by omega))).2 fun p => ?_
 unfold portsL
 rw [List.mem_filterMap]
 constructor
 ·intro hm
  obtain ⟨_,_,q1,q2⟩:=h1 p hm
  refine ⟨p.node.toNat,List.mem_range.2 oM,?_⟩
  rw [Int.toNat_of_nonneg q1]
  cases hx:portP c.links part p.node c.links.length with
  | none=>exact absurd rfl (portP_none hx p hm)
  | some q =>
   have:=portP_mem hx
   rw [inj_of h2 q this.1 p hm this.2]
 ·rintro ⟨k,_,hk⟩
  exact (portP_mem hk).1
theorem portsOf_perm {c:Config} (h:(checkP c).1=0) (part:Int):(rawN c.links part c.links.length).Perm (portsOf c part):=by
 unfold portsOf
 by_cases hp:0≤part∧part<(c.parts.length:Int)
 ·rw [if_pos ⟨h,by rw [isB_true]; exact hp⟩]; exact raw_perm (good_of h) hp
 ·rw [if_neg (fun hh=>hp (by have:=hh.2; rwa [isB_true] at this))]
  have:=(raw_in (good_of h) (part:=part) c.links.length (Nat.le_refl _)).1
  cases hr:rawN c.links part c.links.length with
  | nil=>exact .refl _
  | cons p r =>
   have:=this p (by rw [hr]; exact List.mem_cons_self ..)
   omega
theorem portsOf_sorted (c:Config) (part:Int):(portsOf c part).Pairwise fun p q=>p.node<q.node:=by
 unfold portsOf
 split
 ·exact portsL_sorted c part
 ·exact .nil
theorem good_nodes {c:Config} (h:Good c) {part:Int} (hp:0≤part∧part<(c.parts.length:Int)):1≤(c.parts.getD part.toNat default).nodes∧(c.parts.getD part.toNat default).nodes≤12:=by
 have:=h.part part.toNat oM
 unfold unsoundB at this
 simp only [Bool.or_eq_false_iff,decide_eq_false_iff_not] at this
 omega
theorem portsOf_len (c:Config) (part:Int):(portsOf c part).length≤12:=by
 unfold portsOf
 split
 ·rename_i h
  have hp:=h.2
  rw [isB_true] at hp
  have:=good_nodes (good_of h.1) hp
  refine Nat.le_trans (List.length_filterMap_le _ _) ?_
  rw [List.length_range]
  omega
 ·exact Nat.zero_le _
theorem raw_len {c:Config} (h:(checkP c).1=0) (part:Int):(rawN c.links part c.links.length).length≤12:=by
 rw [(portsOf_perm h part).length_eq]; exact portsOf_len c part
theorem srt_pairwise {ys:List Port} {n:Nat} (hl:ys.length=n) (h:Srt ys n):ys.Pairwise fun p q=>p.node≤q.node:=by
 rw [List.pairwise_iff_getElem]
 intro i j hi hj hij
 have:=h i j hij oM
 simpa [List.getD_eq_getElem?_getD,List.getElem?_eq_getElem hi,List.getElem?_eq_getElem hj] using this
theorem sorted_ports {c:Config} (h:(checkP c).1=0) {part:Int} {ys:List Port} {n:Nat} (hp:ys.Perm (rawN c.links part c.links.length)) (hl:ys.length=n) (hs:Srt ys n):ys=portsOf c part:=by
 have hpp:=hp.trans (portsOf_perm h part)
 refine List.Perm.eq_of_pairwise (le:=fun p q=>p.node≤q.node) (fun a b ha hb h1 h2 => ?_) (srt_pairwise hl hs) ((portsOf_sorted c part).imp fun h=>by omega) hpp
 exact inj_of ((portsOf_sorted c part).imp fun h=>by omega) a (hpp.subset ha) b hb oM
set_option maxHeartbeats 4000000
theorem plan_Ports_pc0 (e:Nat→Addr) (c:Config) (part:Int) (hp0:c.parts.length<1000000) (hl0:c.links.length<1000000):PC Tryz.prog (errG2 e) 51 [D.r (Config.d c),I part] (fun d=>d=sl' 4 Port.d (portsOf c part)∨(d=D.v (.slice none 0 0)∧portsOf c part=[])):=by
 refine PC.of (N:=53) Tryz.func51 rfl rfl (Nat.le_of_ble_eq_true rfl) ?_
 refine PW.a [1,2] 1 (PW.seq (PW.seq ?_))
 rcases Classical.em ((checkP c).1=0) with hq|hq
 ·skip
  refine PW.region (PL.a 1 [1,2,12] 1 (PL.gc (d:=D.v (.nilIface)) (A:=[]) (fun _=>((plan_check_pc e c hp0 hl0).weak (errG_sub e)).eq (faultD_nil hq)) (PL.a 1 [1,2,14] 1 (PL.nil ?_))))
  show PW _ _ _ _ _
  refine PW.cd false (fun hz0=>by cases hz0) (fun hz0 => ?_)
  refine PW.k (PW.a [1,2,5] 1 (PW.q [1,5,16,17,18] 1 (PW.block (PW.born 5 76 4 kR (PW.loopR (α := Nat×List Port) (fun (i,xs)=>{ tab:=[⟨1,[],I part⟩,⟨5,[],D.h 1 xs.length⟩,⟨16,[],sl' 6 Link.d c.links⟩,⟨17,[],I (c.links.length:Int)⟩,⟨18,[],I (i:Int)⟩],mem:=[Obj.var 30 (Config.d c),Obj.row 76 4 xs.length (fun j=>[I ((xs.getD j default).node),I ((xs.getD j default).link),I ((xs.getD j default).gate),I ((xs.getD j default).side)])],gl:=(errG2 e) }) (fun (i,xs)=>i≤c.links.length∧xs=rawN c.links part i) (fun (i,xs)=>c.links.length-i) [1,5,16,17,18] 2 (0,[]) (s1:={ tab:=[⟨1,[],I part⟩,⟨5,[],D.h 1 0⟩,⟨16,[],sl' 6 Link.d c.links⟩,⟨17,[],I (c.links.length:Int)⟩,⟨18,[],I 0⟩],mem:=[Obj.var 30 (Config.d c),Obj.row 76 4 0 (fun _=>[])],gl:=(errG2 e) }) kR kR ?_ ?_ ?_)))))
  ·dsimp only
   exact ⟨rfl,rfl,rfl,(.same (.row rfl (fun j hj=>absurd hj (Nat.not_lt_zero _)) .nil))⟩
  ·dsimp only
   exact ⟨Nat.zero_le _,rfl⟩
  rintro ⟨i,xs⟩ hinv
  dsimp only at hinv
  have hxl:xs.length≤4*i:=by rw [hinv.2]; exact rawN_len _ _ _
  show PW _ _ _ _ _
  refine PW.a [1,5,16,17,18,19] 2 (PW.seq (PW.cd (decide ((i:Int)<(c.links.length:Int))) ?_ ?_)) <;> intro hz1 <;> try simp only [boolS,isB_true,isB_false] at hz1
  ·refine PW.k (PW.seq (PW.block (PW.sr [1,5,6,7,16,17,18] 3 (p:=(0≤(i:Int)∧(i:Int)<(c.links.length:Int))) oM (PW.w 1 [1,5,6,16,17,18,23] 3 (PL.gc (G:=(errG2 e)) (A:=[]) (fun _=>PC.more (plan_ends_pc (c.links.getD i default))) (PL.n 1 [1,5,6,16,17,18,24,25] 3 (PW.block ?_)))))))
   refine PW.rounds 3 ?_
   refine PR.succ ?_
   refine PW.a [1,5,6,16,17,18,24,25,26] 3 (PW.seq ?_)
   refine PW.cd true (fun hz2 => ?_) (fun hz2=>by cases hz2)
   refine PW.k (PW.seq (PW.block (PW.sr [1,5,6,8,9,16,17,18,24,25] 4 (p:=(0≤(0:Int)∧(0:Int)<((2:Nat):Int))) oM (PW.q [1,5,6,8,9,16,17,18,24,25,32] 4 (PW.cd (((c.links.getD i default).a) != part) ?_ ?_))))) <;> intro hz3 <;> try simp only [boolS,isB_true,isB_false] at hz3
   ·refine PW.e (PW.b [1,5,6,16,17,18,24,25] 4 ?_)
    show PR _ _ _ _ _ _
    refine PR.succ ?_
    refine PW.a [1,5,6,16,17,18,24,25,26] 4 (PW.seq ?_)
    refine PW.cd true (fun hz4 => ?_) (fun hz4=>by cases hz4)
    refine PW.k (PW.seq (PW.block (PW.sr [1,5,6,8,9,16,17,18,24,25] 5 (p:=(0≤(1:Int)∧(1:Int)<((2:Nat):Int))) oM (PW.q [1,5,6,8,9,16,17,18,24,25,32] 5 (PW.cd (((c.links.getD i default).b) != part) ?_ ?_))))) <;> intro hz5 <;> try simp only [boolS,isB_true,isB_false] at hz5
    ·refine PW.e (PW.b [1,5,6,16,17,18,24,25] 5 ?_)
     show PR _ _ _ _ _ _
     refine PR.succ ?_
     refine PW.a [1,5,6,16,17,18,24,25,26] 5 (PW.seq (PW.cd false (fun hz6=>by cases hz6) (fun hz6 => ?_)))
     refine PW.e (PW.b [1,5,16,17,18] 5 ?_)
     refine BackR.of (s1:={ tab:=[⟨1,[],I part⟩,⟨5,[],D.h 1 xs.length⟩,⟨16,[],sl' 6 Link.d c.links⟩,⟨17,[],I (c.links.length:Int)⟩,⟨18,[],I (IntKind.i64.wrap ((i:Int)+1))⟩],mem:=[Obj.var 30 (Config.d c),Obj.row 76 4 xs.length (fun j=>[I ((xs.getD j default).node),I ((xs.getD j default).link),I ((xs.getD j default).gate),I ((xs.getD j default).side)])],gl:=(errG2 e) }) (i+1,xs) kR kR ?_ ?_ ?_
     ·dsimp only
      rw [wrap1 i oM]
      try simp only [List.length_append,List.length_singleton]
      exact Rem.refl _
     ·dsimp only
      exact ⟨by omega,by rw [rawN,← hinv.2]; unfold portsAt; simp_all⟩
     ·dsimp only
      exact nD
    ·refine PW.k (PW.a [1,5,6,8,16,17,18,24,25,34,35] 5 (PW.block (PW.rounds 3 ?_)))
     refine PR.succ ?_
     refine PW.a [1,5,6,8,16,17,18,24,25,34,35,36] 5 (PW.seq ?_)
     refine PW.cd true (fun hz7 => ?_) (fun hz7=>by cases hz7)
     refine PW.k (PW.seq (PW.block (PW.sr [1,5,6,8,10,11,16,17,18,24,25,34,35] 5 (p:=(0≤(0:Int)∧(0:Int)<((2:Nat):Int))) oM (PW.region (PL.rw 8 [1,6,8,16,17,18,24,25,34,35,46] 6 (p:=((xs.length=xs.length∧1≤1)∧(xs.length+1)*32≤140737488355328∧xs.length+1≤9223372036854775807)) oM (PL.ap 1 (fun x=>[I (x.node),I (x.link),I (x.gate),I (x.side)]) xs ((⟨(c.links.getD i default).pb0,(i:Int),0,1⟩:Port)) (PL.a 1 [1,5,6,8,16,17,18,24,25,34,35] 6 ?_)))))))
     refine PL.nil ?_
     show PW _ _ _ _ _
     refine PW.b [1,5,6,8,16,17,18,24,25,34,35] 6 ?_
     show PR _ _ _ _ _ _
     refine PR.succ ?_
     refine PW.a [1,5,6,8,16,17,18,24,25,34,35,36] 6 (PW.seq ?_)
     refine PW.cd true (fun hz8 => ?_) (fun hz8=>by cases hz8)
     refine PW.k (PW.seq (PW.block (PW.sr [1,5,6,8,10,11,16,17,18,24,25,34,35] 6 (p:=(0≤(1:Int)∧(1:Int)<((2:Nat):Int))) oM (PW.region (PL.rw 8 [1,6,8,16,17,18,24,25,34,35,46] 7 (p:=((xs.length+1=xs.length+1∧1≤1)∧(xs.length+1+1)*32≤140737488355328∧xs.length+1+1≤9223372036854775807)) oM (PL.rm 1 (t:=76) (z:=4) (n:=(xs.length+1+1)) (fun j=>if j<xs.length+1 then (fun j=>[I (((xs++[(⟨(c.links.getD i default).pb0,(i:Int),0,1⟩:Port)]).getD j default).node),I (((xs++[(⟨(c.links.getD i default).pb0,(i:Int),0,1⟩:Port)]).getD j default).link),I (((xs++[(⟨(c.links.getD i default).pb0,(i:Int),0,1⟩:Port)]).getD j default).gate),I (((xs++[(⟨(c.links.getD i default).pb0,(i:Int),0,1⟩:Port)]).getD j default).side)]) j else (fun k=>([[I ((c.links.getD i default).pb1),I (i:Int),I 1,I 1]][k]?).getD []) (j-(xs.length+1))) (fun j=>[I ((((xs++[(⟨(c.links.getD i default).pb0,(i:Int),0,1⟩:Port)])++[(⟨(c.links.getD i default).pb1,(i:Int),1,1⟩:Port)]).getD j default).node),I ((((xs++[(⟨(c.links.getD i default).pb0,(i:Int),0,1⟩:Port)])++[(⟨(c.links.getD i default).pb1,(i:Int),1,1⟩:Port)]).getD j default).link),I ((((xs++[(⟨(c.links.getD i default).pb0,(i:Int),0,1⟩:Port)])++[(⟨(c.links.getD i default).pb1,(i:Int),1,1⟩:Port)]).getD j default).gate),I ((((xs++[(⟨(c.links.getD i default).pb0,(i:Int),0,1⟩:Port)])++[(⟨(c.links.getD i default).pb1,(i:Int),1,1⟩:Port)]).getD j default).side)]) (fun j hj=>by (try dsimp only); rw [getD_app (xs++[(⟨(c.links.getD i default).pb0,(i:Int),0,1⟩:Port)]) [(⟨(c.links.getD i default).pb1,(i:Int),1,1⟩:Port)] j default,show (xs++[(⟨(c.links.getD i default).pb0,(i:Int),0,1⟩:Port)]).length=xs.length+1 from (by (try simp only [List.length_set,List.length_replicate,List.length_append,List.length_cons,List.length_nil]) <;> omega)]; split <;> first|rfl|(rename_i hjn; rw [show j-(xs.length+1)=0 by omega]; rfl)) (PL.a 1 [1,5,6,8,16,17,18,24,25,34,35] 7 ?_)))))))
     refine PL.nil ?_
     show PW _ _ _ _ _
     refine PW.b [1,5,6,8,16,17,18,24,25,34,35] 7 ?_
     show PR _ _ _ _ _ _
     refine PR.succ ?_
     refine PW.a [1,5,6,8,16,17,18,24,25,34,35,36] 7 (PW.seq (PW.cd false (fun hz9=>by cases hz9) (fun hz9 => ?_)))
     refine PW.e (PW.b [1,5,6,16,17,18,24,25] 7 ?_)
     show PR _ _ _ _ _ _
     refine PR.succ ?_
     refine PW.a [1,5,6,16,17,18,24,25,26] 7 (PW.seq (PW.cd false (fun hz10=>by cases hz10) (fun hz10 => ?_)))
     refine PW.e (PW.b [1,5,16,17,18] 7 ?_)
     refine BackR.of (s1:={ tab:=[⟨1,[],I part⟩,⟨5,[],D.h 1 (xs.length+1+1)⟩,⟨16,[],sl' 6 Link.d c.links⟩,⟨17,[],I (c.links.length:Int)⟩,⟨18,[],I (IntKind.i64.wrap ((i:Int)+1))⟩],mem:=[Obj.var 30 (Config.d c),Obj.row 76 4 (xs.length+1+1) (fun j=>[I ((((xs++[(⟨(c.links.getD i default).pb0,(i:Int),0,1⟩:Port)])++[(⟨(c.links.getD i default).pb1,(i:Int),1,1⟩:Port)]).getD j default).node),I ((((xs++[(⟨(c.links.getD i default).pb0,(i:Int),0,1⟩:Port)])++[(⟨(c.links.getD i default).pb1,(i:Int),1,1⟩:Port)]).getD j default).link),I ((((xs++[(⟨(c.links.getD i default).pb0,(i:Int),0,1⟩:Port)])++[(⟨(c.links.getD i default).pb1,(i:Int),1,1⟩:Port)]).getD j default).gate),I ((((xs++[(⟨(c.links.getD i default).pb0,(i:Int),0,1⟩:Port)])++[(⟨(c.links.getD i default).pb1,(i:Int),1,1⟩:Port)]).getD j default).side)])],gl:=(errG2 e) }) (i+1,(xs++[(⟨(c.links.getD i default).pb0,(i:Int),0,1⟩:Port)])++[(⟨(c.links.getD i default).pb1,(i:Int),1,1⟩:Port)]) kR kR ?_ ?_ ?_
     ·dsimp only
      rw [wrap1 i oM]
      try simp only [List.length_append,List.length_singleton]
      exact Rem.refl _
     ·dsimp only
      exact ⟨by omega,by rw [rawN,← hinv.2]; unfold portsAt; simp_all⟩
     ·dsimp only
      exact nD
   ·refine PW.k (PW.a [1,5,6,8,16,17,18,24,25,34,35] 4 (PW.block (PW.rounds 3 ?_)))
    refine PR.succ ?_
    refine PW.a [1,5,6,8,16,17,18,24,25,34,35,36] 4 (PW.seq ?_)
    refine PW.cd true (fun hz11 => ?_) (fun hz11=>by cases hz11)
    refine PW.k (PW.seq (PW.block (PW.sr [1,5,6,8,10,11,16,17,18,24,25,34,35] 4 (p:=(0≤(0:Int)∧(0:Int)<((2:Nat):Int))) oM (PW.region (PL.rw 8 [1,6,8,16,17,18,24,25,34,35,46] 5 (p:=((xs.length=xs.length∧1≤1)∧(xs.length+1)*32≤140737488355328∧xs.length+1≤9223372036854775807)) oM (PL.ap 1 (fun x=>[I (x.node),I (x.link),I (x.gate),I (x.side)]) xs ((⟨(c.links.getD i default).pa0,(i:Int),0,0⟩:Port)) (PL.a 1 [1,5,6,8,16,17,18,24,25,34,35] 5 ?_)))))))
    refine PL.nil ?_
    show PW _ _ _ _ _
    refine PW.b [1,5,6,8,16,17,18,24,25,34,35] 5 ?_
    show PR _ _ _ _ _ _
    refine PR.succ ?_
    refine PW.a [1,5,6,8,16,17,18,24,25,34,35,36] 5 (PW.seq ?_)
    refine PW.cd true (fun hz12 => ?_) (fun hz12=>by cases hz12)
    refine PW.k (PW.seq (PW.block (PW.sr [1,5,6,8,10,11,16,17,18,24,25,34,35] 5 (p:=(0≤(1:Int)∧(1:Int)<((2:Nat):Int))) oM (PW.region (PL.rw 8 [1,6,8,16,17,18,24,25,34,35,46] 6 (p:=((xs.length+1=xs.length+1∧1≤1)∧(xs.length+1+1)*32≤140737488355328∧xs.length+1+1≤9223372036854775807)) oM (PL.rm 1 (t:=76) (z:=4) (n:=(xs.length+1+1)) (fun j=>if j<xs.length+1 then (fun j=>[I (((xs++[(⟨(c.links.getD i default).pa0,(i:Int),0,0⟩:Port)]).getD j default).node),I (((xs++[(⟨(c.links.getD i default).pa0,(i:Int),0,0⟩:Port)]).getD j default).link),I (((xs++[(⟨(c.links.getD i default).pa0,(i:Int),0,0⟩:Port)]).getD j default).gate),I (((xs++[(⟨(c.links.getD i default).pa0,(i:Int),0,0⟩:Port)]).getD j default).side)]) j else (fun k=>([[I ((c.links.getD i default).pa1),I (i:Int),I 1,I 0]][k]?).getD []) (j-(xs.length+1))) (fun j=>[I ((((xs++[(⟨(c.links.getD i default).pa0,(i:Int),0,0⟩:Port)])++[(⟨(c.links.getD i default).pa1,(i:Int),1,0⟩:Port)]).getD j default).node),I ((((xs++[(⟨(c.links.getD i default).pa0,(i:Int),0,0⟩:Port)])++[(⟨(c.links.getD i default).pa1,(i:Int),1,0⟩:Port)]).getD j default).link),I ((((xs++[(⟨(c.links.getD i default).pa0,(i:Int),0,0⟩:Port)])++[(⟨(c.links.getD i default).pa1,(i:Int),1,0⟩:Port)]).getD j default).gate),I ((((xs++[(⟨(c.links.getD i default).pa0,(i:Int),0,0⟩:Port)])++[(⟨(c.links.getD i default).pa1,(i:Int),1,0⟩:Port)]).getD j default).side)]) (fun j hj=>by (try dsimp only); rw [getD_app (xs++[(⟨(c.links.getD i default).pa0,(i:Int),0,0⟩:Port)]) [(⟨(c.links.getD i default).pa1,(i:Int),1,0⟩:Port)] j default,show (xs++[(⟨(c.links.getD i default).pa0,(i:Int),0,0⟩:Port)]).length=xs.length+1 from (by (try simp only [List.length_set,List.length_replicate,List.length_append,List.length_cons,List.length_nil]) <;> omega)]; split <;> first|rfl|(rename_i hjn; rw [show j-(xs.length+1)=0 by omega]; rfl)) (PL.a 1 [1,5,6,8,16,17,18,24,25,34,35] 6 ?_)))))))
    refine PL.nil ?_
    show PW _ _ _ _ _
    refine PW.b [1,5,6,8,16,17,18,24,25,34,35] 6 ?_
    show PR _ _ _ _ _ _
    refine PR.succ ?_
    refine PW.a [1,5,6,8,16,17,18,24,25,34,35,36] 6 (PW.seq (PW.cd false (fun hz13=>by cases hz13) (fun hz13 => ?_)))
    refine PW.e (PW.b [1,5,6,16,17,18,24,25] 6 ?_)
    show PR _ _ _ _ _ _
    refine PR.succ ?_
    refine PW.a [1,5,6,16,17,18,24,25,26] 6 (PW.seq ?_)
    refine PW.cd true (fun hz14 => ?_) (fun hz14=>by cases hz14)
    refine PW.k (PW.seq (PW.block (PW.sr [1,5,6,8,9,16,17,18,24,25] 7 (p:=(0≤(1:Int)∧(1:Int)<((2:Nat):Int))) oM (PW.q [1,5,6,8,9,16,17,18,24,25,32] 7 (PW.cd (((c.links.getD i default).b) != part) ?_ ?_))))) <;> intro hz15 <;> try simp only [boolS,isB_true,isB_false] at hz15
    ·refine PW.e (PW.b [1,5,6,16,17,18,24,25] 7 ?_)
     show PR _ _ _ _ _ _
     refine PR.succ ?_
     refine PW.a [1,5,6,16,17,18,24,25,26] 7 (PW.seq (PW.cd false (fun hz16=>by cases hz16) (fun hz16 => ?_)))
     refine PW.e (PW.b [1,5,16,17,18] 7 ?_)
     refine BackR.of (s1:={ tab:=[⟨1,[],I part⟩,⟨5,[],D.h 1 (xs.length+1+1)⟩,⟨16,[],sl' 6 Link.d c.links⟩,⟨17,[],I (c.links.length:Int)⟩,⟨18,[],I (IntKind.i64.wrap ((i:Int)+1))⟩],mem:=[Obj.var 30 (Config.d c),Obj.row 76 4 (xs.length+1+1) (fun j=>[I ((((xs++[(⟨(c.links.getD i default).pa0,(i:Int),0,0⟩:Port)])++[(⟨(c.links.getD i default).pa1,(i:Int),1,0⟩:Port)]).getD j default).node),I ((((xs++[(⟨(c.links.getD i default).pa0,(i:Int),0,0⟩:Port)])++[(⟨(c.links.getD i default).pa1,(i:Int),1,0⟩:Port)]).getD j default).link),I ((((xs++[(⟨(c.links.getD i default).pa0,(i:Int),0,0⟩:Port)])++[(⟨(c.links.getD i default).pa1,(i:Int),1,0⟩:Port)]).getD j default).gate),I ((((xs++[(⟨(c.links.getD i default).pa0,(i:Int),0,0⟩:Port)])++[(⟨(c.links.getD i default).pa1,(i:Int),1,0⟩:Port)]).getD j default).side)])],gl:=(errG2 e) }) (i+1,(xs++[(⟨(c.links.getD i default).pa0,(i:Int),0,0⟩:Port)])++[(⟨(c.links.getD i default).pa1,(i:Int),1,0⟩:Port)]) kR kR ?_ ?_ ?_
     ·dsimp only
      rw [wrap1 i oM]
      try simp only [List.length_append,List.length_singleton]
      exact Rem.refl _
     ·dsimp only
      exact ⟨by omega,by rw [rawN,← hinv.2]; unfold portsAt; simp_all⟩
     ·dsimp only
      exact nD
    ·refine PW.k (PW.a [1,5,6,8,16,17,18,24,25,34,35] 7 (PW.block (PW.rounds 3 ?_)))
     refine PR.succ ?_
     refine PW.a [1,5,6,8,16,17,18,24,25,34,35,36] 7 (PW.seq ?_)
     refine PW.cd true (fun hz17 => ?_) (fun hz17=>by cases hz17)
     refine PW.k (PW.seq (PW.block (PW.sr [1,5,6,8,10,11,16,17,18,24,25,34,35] 7 (p:=(0≤(0:Int)∧(0:Int)<((2:Nat):Int))) oM (PW.region (PL.rw 8 [1,6,8,16,17,18,24,25,34,35,46] 8 (p:=((xs.length+1+1=xs.length+1+1∧1≤1)∧(xs.length+1+1+1)*32≤140737488355328∧xs.length+1+1+1≤9223372036854775807)) oM (PL.rm 1 (t:=76) (z:=4) (n:=(xs.length+1+1+1)) (fun j=>if j<xs.length+1+1 then (fun j=>[I ((((xs++[(⟨(c.links.getD i default).pa0,(i:Int),0,0⟩:Port)])++[(⟨(c.links.getD i default).pa1,(i:Int),1,0⟩:Port)]).getD j default).node),I ((((xs++[(⟨(c.links.getD i default).pa0,(i:Int),0,0⟩:Port)])++[(⟨(c.links.getD i default).pa1,(i:Int),1,0⟩:Port)]).getD j default).link),I ((((xs++[(⟨(c.links.getD i default).pa0,(i:Int),0,0⟩:Port)])++[(⟨(c.links.getD i default).pa1,(i:Int),1,0⟩:Port)]).getD j default).gate),I ((((xs++[(⟨(c.links.getD i default).pa0,(i:Int),0,0⟩:Port)])++[(⟨(c.links.getD i default).pa1,(i:Int),1,0⟩:Port)]).getD j default).side)]) j else (fun k=>([[I ((c.links.getD i default).pb0),I (i:Int),I 0,I 1]][k]?).getD []) (j-(xs.length+1+1))) (fun j=>[I (((((xs++[(⟨(c.links.getD i default).pa0,(i:Int),0,0⟩:Port)])++[(⟨(c.links.getD i default).pa1,(i:Int),1,0⟩:Port)])++[(⟨(c.links.getD i default).pb0,(i:Int),0,1⟩:Port)]).getD j default).node),I (((((xs++[(⟨(c.links.getD i default).pa0,(i:Int),0,0⟩:Port)])++[(⟨(c.links.getD i default).pa1,(i:Int),1,0⟩:Port)])++[(⟨(c.links.getD i default).pb0,(i:Int),0,1⟩:Port)]).getD j default).link),I (((((xs++[(⟨(c.links.getD i default).pa0,(i:Int),0,0⟩:Port)])++[(⟨(c.links.getD i default).pa1,(i:Int),1,0⟩:Port)])++[(⟨(c.links.getD i default).pb0,(i:Int),0,1⟩:Port)]).getD j default).gate),I (((((xs++[(⟨(c.links.getD i default).pa0,(i:Int),0,0⟩:Port)])++[(⟨(c.links.getD i default).pa1,(i:Int),1,0⟩:Port)])++[(⟨(c.links.getD i default).pb0,(i:Int),0,1⟩:Port)]).getD j default).side)]) (fun j hj=>by (try dsimp only); rw [getD_app ((xs++[(⟨(c.links.getD i default).pa0,(i:Int),0,0⟩:Port)])++[(⟨(c.links.getD i default).pa1,(i:Int),1,0⟩:Port)]) [(⟨(c.links.getD i default).pb0,(i:Int),0,1⟩:Port)] j default,show ((xs++[(⟨(c.links.getD i default).pa0,(i:Int),0,0⟩:Port)])++[(⟨(c.links.getD i default).pa1,(i:Int),1,0⟩:Port)]).length=xs.length+1+1 from (by (try simp only [List.length_set,List.length_replicate,List.length_append,List.length_cons,List.length_nil]) <;> omega)]; split <;> first|rfl|(rename_i hjn; rw [show j-(xs.length+1+1)=0 by omega]; rfl)) (PL.a 1 [1,5,6,8,16,17,18,24,25,34,35] 8 ?_)))))))
     refine PL.nil ?_
     show PW _ _ _ _ _
     refine PW.b [1,5,6,8,16,17,18,24,25,34,35] 8 ?_
     show PR _ _ _ _ _ _
     refine PR.succ ?_
     refine PW.a [1,5,6,8,16,17,18,24,25,34,35,36] 8 (PW.seq ?_)
     refine PW.cd true (fun hz18 => ?_) (fun hz18=>by cases hz18)
     refine PW.k (PW.seq (PW.block (PW.sr [1,5,6,8,10,11,16,17,18,24,25,34,35] 8 (p:=(0≤(1:Int)∧(1:Int)<((2:Nat):Int))) oM (PW.region (PL.rw 8 [1,6,8,16,17,18,24,25,34,35,46] 9 (p:=((xs.length+1+1+1=xs.length+1+1+1∧1≤1)∧(xs.length+1+1+1+1)*32≤140737488355328∧xs.length+1+1+1+1≤9223372036854775807)) oM (PL.rm 1 (t:=76) (z:=4) (n:=(xs.length+1+1+1+1)) (fun j=>if j<xs.length+1+1+1 then (fun j=>[I (((((xs++[(⟨(c.links.getD i default).pa0,(i:Int),0,0⟩:Port)])++[(⟨(c.links.getD i default).pa1,(i:Int),1,0⟩:Port)])++[(⟨(c.links.getD i default).pb0,(i:Int),0,1⟩:Port)]).getD j default).node),I (((((xs++[(⟨(c.links.getD i default).pa0,(i:Int),0,0⟩:Port)])++[(⟨(c.links.getD i default).pa1,(i:Int),1,0⟩:Port)])++[(⟨(c.links.getD i default).pb0,(i:Int),0,1⟩:Port)]).getD j default).link),I (((((xs++[(⟨(c.links.getD i default).pa0,(i:Int),0,0⟩:Port)])++[(⟨(c.links.getD i default).pa1,(i:Int),1,0⟩:Port)])++[(⟨(c.links.getD i default).pb0,(i:Int),0,1⟩:Port)]).getD j default).gate),I (((((xs++[(⟨(c.links.getD i default).pa0,(i:Int),0,0⟩:Port)])++[(⟨(c.links.getD i default).pa1,(i:Int),1,0⟩:Port)])++[(⟨(c.links.getD i default).pb0,(i:Int),0,1⟩:Port)]).getD j default).side)]) j else (fun k=>([[I ((c.links.getD i default).pb1),I (i:Int),I 1,I 1]][k]?).getD []) (j-(xs.length+1+1+1))) (fun j=>[I ((((((xs++[(⟨(c.links.getD i default).pa0,(i:Int),0,0⟩:Port)])++[(⟨(c.links.getD i default).pa1,(i:Int),1,0⟩:Port)])++[(⟨(c.links.getD i default).pb0,(i:Int),0,1⟩:Port)])++[(⟨(c.links.getD i default).pb1,(i:Int),1,1⟩:Port)]).getD j default).node),I ((((((xs++[(⟨(c.links.getD i default).pa0,(i:Int),0,0⟩:Port)])++[(⟨(c.links.getD i default).pa1,(i:Int),1,0⟩:Port)])++[(⟨(c.links.getD i default).pb0,(i:Int),0,1⟩:Port)])++[(⟨(c.links.getD i default).pb1,(i:Int),1,1⟩:Port)]).getD j default).link),I ((((((xs++[(⟨(c.links.getD i default).pa0,(i:Int),0,0⟩:Port)])++[(⟨(c.links.getD i default).pa1,(i:Int),1,0⟩:Port)])++[(⟨(c.links.getD i default).pb0,(i:Int),0,1⟩:Port)])++[(⟨(c.links.getD i default).pb1,(i:Int),1,1⟩:Port)]).getD j default).gate),I ((((((xs++[(⟨(c.links.getD i default).pa0,(i:Int),0,0⟩:Port)])++[(⟨(c.links.getD i default).pa1,(i:Int),1,0⟩:Port)])++[(⟨(c.links.getD i default).pb0,(i:Int),0,1⟩:Port)])++[(⟨(c.links.getD i default).pb1,(i:Int),1,1⟩:Port)]).getD j default).side)]) (fun j hj=>by (try dsimp only); rw [getD_app (((xs++[(⟨(c.links.getD i default).pa0,(i:Int),0,0⟩:Port)])++[(⟨(c.links.getD i default).pa1,(i:Int),1,0⟩:Port)])++[(⟨(c.links.getD i default).pb0,(i:Int),0,1⟩:Port)]) [(⟨(c.links.getD i default).pb1,(i:Int),1,1⟩:Port)] j default,show (((xs++[(⟨(c.links.getD i default).pa0,(i:Int),0,0⟩:Port)])++[(⟨(c.links.getD i default).pa1,(i:Int),1,0⟩:Port)])++[(⟨(c.links.getD i default).pb0,(i:Int),0,1⟩:Port)]).length=xs.length+1+1+1 from (by (try simp only [List.length_set,List.length_replicate,List.length_append,List.length_cons,List.length_nil]) <;> omega)]; split <;> first|rfl|(rename_i hjn; rw [show j-(xs.length+1+1+1)=0 by omega]; rfl)) (PL.a 1 [1,5,6,8,16,17,18,24,25,34,35] 9 ?_)))))))
     refine PL.nil ?_
     show PW _ _ _ _ _
     refine PW.b [1,5,6,8,16,17,18,24,25,34,35] 9 ?_
     show PR _ _ _ _ _ _
     refine PR.succ ?_
     refine PW.a [1,5,6,8,16,17,18,24,25,34,35,36] 9 (PW.seq (PW.cd false (fun hz19=>by cases hz19) (fun hz19 => ?_)))
     refine PW.e (PW.b [1,5,6,16,17,18,24,25] 9 ?_)
     show PR _ _ _ _ _ _
     refine PR.succ ?_
     refine PW.a [1,5,6,16,17,18,24,25,26] 9 (PW.seq (PW.cd false (fun hz20=>by cases hz20) (fun hz20 => ?_)))
     refine PW.e (PW.b [1,5,16,17,18] 9 ?_)
     refine BackR.of (s1:={ tab:=[⟨1,[],I part⟩,⟨5,[],D.h 1 (xs.length+1+1+1+1)⟩,⟨16,[],sl' 6 Link.d c.links⟩,⟨17,[],I (c.links.length:Int)⟩,⟨18,[],I (IntKind.i64.wrap ((i:Int)+1))⟩],mem:=[Obj.var 30 (Config.d c),Obj.row 76 4 (xs.length+1+1+1+1) (fun j=>[I ((((((xs++[(⟨(c.links.getD i default).pa0,(i:Int),0,0⟩:Port)])++[(⟨(c.links.getD i default).pa1,(i:Int),1,0⟩:Port)])++[(⟨(c.links.getD i default).pb0,(i:Int),0,1⟩:Port)])++[(⟨(c.links.getD i default).pb1,(i:Int),1,1⟩:Port)]).getD j default).node),I ((((((xs++[(⟨(c.links.getD i default).pa0,(i:Int),0,0⟩:Port)])++[(⟨(c.links.getD i default).pa1,(i:Int),1,0⟩:Port)])++[(⟨(c.links.getD i default).pb0,(i:Int),0,1⟩:Port)])++[(⟨(c.links.getD i default).pb1,(i:Int),1,1⟩:Port)]).getD j default).link),I ((((((xs++[(⟨(c.links.getD i default).pa0,(i:Int),0,0⟩:Port)])++[(⟨(c.links.getD i default).pa1,(i:Int),1,0⟩:Port)])++[(⟨(c.links.getD i default).pb0,(i:Int),0,1⟩:Port)])++[(⟨(c.links.getD i default).pb1,(i:Int),1,1⟩:Port)]).getD j default).gate),I ((((((xs++[(⟨(c.links.getD i default).pa0,(i:Int),0,0⟩:Port)])++[(⟨(c.links.getD i default).pa1,(i:Int),1,0⟩:Port)])++[(⟨(c.links.getD i default).pb0,(i:Int),0,1⟩:Port)])++[(⟨(c.links.getD i default).pb1,(i:Int),1,1⟩:Port)]).getD j default).side)])],gl:=(errG2 e) }) (i+1,(((xs++[(⟨(c.links.getD i default).pa0,(i:Int),0,0⟩:Port)])++[(⟨(c.links.getD i default).pa1,(i:Int),1,0⟩:Port)])++[(⟨(c.links.getD i default).pb0,(i:Int),0,1⟩:Port)])++[(⟨(c.links.getD i default).pb1,(i:Int),1,1⟩:Port)]) kR kR ?_ ?_ ?_
     ·dsimp only
      rw [wrap1 i oM]
      try simp only [List.length_append,List.length_singleton]
      exact Rem.refl _
     ·dsimp only
      exact ⟨by omega,by rw [rawN,← hinv.2]; unfold portsAt; simp_all⟩
     ·dsimp only
      exact nD
  ·refine PW.e (PW.w 1 [5,50] 2 (PL.cm (G:=(errG2 e)) (f:=81) (ds:=[D.h 0 xs.length,D.v (.func (.func 82) #[] #[])]) (ob:=Obj.row 76 4 xs.length (fun j=>[I ((xs.getD j default).node),I ((xs.getD j default).link),I ((xs.getD j default).gate),I ((xs.getD j default).side)])) 1 (PM.more (sortFunc_pm xs xs.length rfl (by rw [hinv.2,show i=c.links.length by omega]; exact raw_len hq part))) ?_))
   rintro _ _ ⟨rfl,ys,rfl,hp,hs⟩
   refine PL.nl (PW.t [4] 2 (retQ_ret (d:=D.s xs.length 4 (fun j=>[I ((ys.getD j default).node),I ((ys.getD j default).link),I ((ys.getD j default).gate),I ((ys.getD j default).side)])) (ps:=[xs.length≤xs.length]) kR (show (xs.length≤xs.length) from by exact nD) ?_))
   left
   have hxs:xs=rawN c.links part c.links.length:=by rw [hinv.2,show i=c.links.length by omega]
   have e:ys=portsOf c part:=sorted_ports hq (by rw [hxs] at hp; exact hp) hp.length_eq hs
   unfold sl'
   rw [← e,hp.length_eq]
   rfl
 ·skip
  refine PW.region (PL.a 1 [1,2,12] 1 (PL.gc (d:=D.i 163 (D.q [D.v (.iface 251 (.pointer (some (e (kOf (checkP c).1))))),I ((checkP c).2)] 0)) (A:=[]) (fun _=>((plan_check_pc e c hp0 hl0).weak (errG_sub e)).eq (faultD_some hq)) (PL.a 1 [1,2,14] 1 (PL.nil ?_))))
  show PW _ _ _ _ _
  refine PW.cd true (fun hz21 => ?_) (fun hz21=>by cases hz21)
  refine PW.t [4] 1 (rq (D.v (.slice none 0 0)) ?_)
  exact .inr ⟨rfl,if_neg fun h=>hq h.1⟩
end Go.Proofs.YtdomlccfjnkbjaaGreatDoor.Pl
