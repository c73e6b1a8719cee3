/- What a sort of ports compares; math/bits.Len of small numbers. -/
import Derived.Test.YtleflkgdbagmnaaGreatDoorPlReach
namespace Go.Proofs.YtleflkgdbagmnaaGreatDoor.Pl
open Go.RowKit Go.Proofs.YtleflkgdbagmnaaGreatDoor.Sm Go.Proofs.YtleflkgdbagmnaaGreatDoor.Dp
set_option maxHeartbeats 4000000
set_option maxRecDepth 100000
set_option linter.unusedVariables false
set_option linter.unusedSimpArgs false
def cmpI (x y : Int) : Int := if x < y then -1 else if x > y then 1 else 0
theorem cmpI_lt (x y : Int) : (cmpI x y < 0) = (x < y) := by unfold cmpI; apply propext; split <;> (try split) <;> constructor <;> intro _ <;> omega
theorem isNaN_pc (x : Int) : PC Tryz.prog [] 92 [I x] (· = D.v (.bool false)) := by
 refine PC.of (N := 6) Tryz.func92 rfl rfl (Nat.le_of_ble_eq_true rfl) ?_
 refine PW.sr [0] 0 trivial ?_
 refine PW.sr [2] 0 trivial ?_
 refine PW.ret ?_
 refine retQ_ret (d := D.v (.bool (x != x))) (ps := []) (by kernel_rfl) trivial ?_
 simp
theorem compare_pc (x y : Int) : PC Tryz.prog [] 88 [I x, I y] (· = I (cmpI x y)) := by
 refine PC.of (N := 20) Tryz.func88 rfl rfl (Nat.le_of_ble_eq_true rfl) ?_
 refine PW.sr [0, 1] 0 trivial ?_
 refine PW.sg ?_
 refine PL.rw 1 [0, 1, 7] 0 trivial ?_
 refine PL.gc (A := []) (fun _ => isNaN_pc x) ?_
 refine PL.rw 1 [0, 1, 5] 0 trivial ?_
 refine PL.nl ?_
 refine PW.sg ?_
 refine PL.rw 1 [0, 1, 5, 9] 0 trivial ?_
 refine PL.gc (A := []) (fun _ => isNaN_pc y) ?_
 refine PL.rw 1 [0, 1, 5, 6] 0 trivial ?_
 refine PL.nl ?_
 refine PW.seq ?_
 refine PW.sr [0, 1, 6, 11] 0 trivial ?_
 refine PW.cd false (fun hz0 => by cases hz0) (fun hz0 => ?_)
 refine PW.skip ?_
 show PW _ _ _ _ _
 refine PW.seq ?_
 refine PW.sr [0, 1, 13] 0 trivial ?_
 refine PW.cd false (fun hz1 => by cases hz1) (fun hz1 => ?_)
 refine PW.skip ?_
 show PW _ _ _ _ _
 refine PW.seq ?_
 refine PW.sr [0, 1, 16] 0 trivial ?_
 refine PW.cd (decide (x < y)) (fun hz2 => ?_) (fun hz2 => ?_)
 ·try simp only [boolS, isB_true, isB_false] at hz2
  refine PW.sr [4] 0 trivial ?_
  refine PW.ret ?_
  refine retQ_ret (d := I (-1)) (ps := []) (by kernel_rfl) trivial ?_
  unfold cmpI; rw [if_pos (by omega)]
 ·try simp only [boolS, isB_true, isB_false] at hz2
  refine PW.skip ?_
  show PW _ _ _ _ _
  refine PW.seq ?_
  refine PW.sr [19] 0 trivial ?_
  refine PW.cd (decide (x > y)) (fun hz3 => ?_) (fun hz3 => ?_)
  ·try simp only [boolS, isB_true, isB_false] at hz3
   refine PW.sr [4] 0 trivial ?_
   refine PW.ret ?_
   refine retQ_ret (d := I 1) (ps := []) (by kernel_rfl) trivial ?_
   unfold cmpI; rw [if_neg (by omega), if_pos (by omega)]
  ·try simp only [boolS, isB_true, isB_false] at hz3
   refine PW.skip ?_
   show PW _ _ _ _ _
   refine PW.sr [4] 0 trivial ?_
   refine PW.ret ?_
   refine retQ_ret (d := I 0) (ps := []) (by kernel_rfl) trivial ?_
   unfold cmpI; rw [if_neg (by omega), if_neg (by omega)]
theorem portCmp_pc (p q : Port) : PC Tryz.prog [] 87 [D.r [I p.node, I p.link, I p.gate, I p.side], D.r [I q.node, I q.link, I q.gate, I q.side]] (· = I (cmpI p.node q.node)) := by
 refine PC.of (N := 10) Tryz.func87 rfl rfl (Nat.le_of_ble_eq_true rfl) ?_
 refine PW.sr [2, 3] 2 trivial ?_
 refine PW.sg ?_
 refine PL.rw 4 [6, 8] 2 trivial ?_
 refine PL.gc (A := []) (fun _ => compare_pc p.node q.node) ?_
 refine PL.rw 1 [4] 2 trivial ?_
 refine PL.nl ?_
 refine PW.ret ?_
 refine retQ_ret (d := I (cmpI p.node q.node)) (ps := []) (by kernel_rfl) trivial ?_
 rfl
theorem len64_pc_0  : PC Tryz.prog [] 102 [D.v (.int .u64 0)] (fun d => ∃ k, d = I k) := by
 refine PC.of (N := 25) Tryz.func102 rfl rfl (Nat.le_of_ble_eq_true rfl) ?_
 refine PW.sr [0, 2] 0 trivial ?_
 refine PW.seq ?_
 refine PW.sr [0, 2, 4] 0 trivial ?_
 refine PW.cd false (fun hz0 => by cases hz0) (fun hz0 => ?_)
 refine PW.skip ?_
 show PW _ _ _ _ _
 refine PW.seq ?_
 refine PW.sr [0, 2, 8] 0 trivial ?_
 refine PW.cd false (fun hz1 => by cases hz1) (fun hz1 => ?_)
 refine PW.skip ?_
 show PW _ _ _ _ _
 refine PW.seq ?_
 refine PW.sr [0, 2, 14] 0 trivial ?_
 refine PW.cd false (fun hz2 => by cases hz2) (fun hz2 => ?_)
 refine PW.skip ?_
 show PW _ _ _ _ _
 refine PW.sr [2] 0 trivial ?_
 refine PW.ret ?_
 refine retQ_ret (d := I 0) (ps := []) (by kernel_rfl) trivial ?_
 exact ⟨_, rfl⟩
theorem len64_pc_1  : PC Tryz.prog [] 102 [D.v (.int .u64 1)] (fun d => ∃ k, d = I k) := by
 refine PC.of (N := 25) Tryz.func102 rfl rfl (Nat.le_of_ble_eq_true rfl) ?_
 refine PW.sr [0, 2] 0 trivial ?_
 refine PW.seq ?_
 refine PW.sr [0, 2, 4] 0 trivial ?_
 refine PW.cd false (fun hz0 => by cases hz0) (fun hz0 => ?_)
 refine PW.skip ?_
 show PW _ _ _ _ _
 refine PW.seq ?_
 refine PW.sr [0, 2, 8] 0 trivial ?_
 refine PW.cd false (fun hz1 => by cases hz1) (fun hz1 => ?_)
 refine PW.skip ?_
 show PW _ _ _ _ _
 refine PW.seq ?_
 refine PW.sr [0, 2, 14] 0 trivial ?_
 refine PW.cd false (fun hz2 => by cases hz2) (fun hz2 => ?_)
 refine PW.skip ?_
 show PW _ _ _ _ _
 refine PW.sr [2] 0 trivial ?_
 refine PW.ret ?_
 refine retQ_ret (d := I 1) (ps := []) (by kernel_rfl) trivial ?_
 exact ⟨_, rfl⟩
theorem len64_pc_2  : PC Tryz.prog [] 102 [D.v (.int .u64 2)] (fun d => ∃ k, d = I k) := by
 refine PC.of (N := 25) Tryz.func102 rfl rfl (Nat.le_of_ble_eq_true rfl) ?_
 refine PW.sr [0, 2] 0 trivial ?_
 refine PW.seq ?_
 refine PW.sr [0, 2, 4] 0 trivial ?_
 refine PW.cd false (fun hz0 => by cases hz0) (fun hz0 => ?_)
 refine PW.skip ?_
 show PW _ _ _ _ _
 refine PW.seq ?_
 refine PW.sr [0, 2, 8] 0 trivial ?_
 refine PW.cd false (fun hz1 => by cases hz1) (fun hz1 => ?_)
 refine PW.skip ?_
 show PW _ _ _ _ _
 refine PW.seq ?_
 refine PW.sr [0, 2, 14] 0 trivial ?_
 refine PW.cd false (fun hz2 => by cases hz2) (fun hz2 => ?_)
 refine PW.skip ?_
 show PW _ _ _ _ _
 refine PW.sr [2] 0 trivial ?_
 refine PW.ret ?_
 refine retQ_ret (d := I 2) (ps := []) (by kernel_rfl) trivial ?_
 exact ⟨_, rfl⟩
theorem len64_pc_3  : PC Tryz.prog [] 102 [D.v (.int .u64 3)] (fun d => ∃ k, d = I k) := by
 refine PC.of (N := 25) Tryz.func102 rfl rfl (Nat.le_of_ble_eq_true rfl) ?_
 refine PW.sr [0, 2] 0 trivial ?_
 refine PW.seq ?_
 refine PW.sr [0, 2, 4] 0 trivial ?_
 refine PW.cd false (fun hz0 => by cases hz0) (fun hz0 => ?_)
 refine PW.skip ?_
 show PW _ _ _ _ _
 refine PW.seq ?_
 refine PW.sr [0, 2, 8] 0 trivial ?_
 refine PW.cd false (fun hz1 => by cases hz1) (fun hz1 => ?_)
 refine PW.skip ?_
 show PW _ _ _ _ _
 refine PW.seq ?_
 refine PW.sr [0, 2, 14] 0 trivial ?_
 refine PW.cd false (fun hz2 => by cases hz2) (fun hz2 => ?_)
 refine PW.skip ?_
 show PW _ _ _ _ _
 refine PW.sr [2] 0 trivial ?_
 refine PW.ret ?_
 refine retQ_ret (d := I 2) (ps := []) (by kernel_rfl) trivial ?_
 exact ⟨_, rfl⟩
theorem len64_pc_4  : PC Tryz.prog [] 102 [D.v (.int .u64 4)] (fun d => ∃ k, d = I k) := by
 refine PC.of (N := 25) Tryz.func102 rfl rfl (Nat.le_of_ble_eq_true rfl) ?_
 refine PW.sr [0, 2] 0 trivial ?_
 refine PW.seq ?_
 refine PW.sr [0, 2, 4] 0 trivial ?_
 refine PW.cd false (fun hz0 => by cases hz0) (fun hz0 => ?_)
 refine PW.skip ?_
 show PW _ _ _ _ _
 refine PW.seq ?_
 refine PW.sr [0, 2, 8] 0 trivial ?_
 refine PW.cd false (fun hz1 => by cases hz1) (fun hz1 => ?_)
 refine PW.skip ?_
 show PW _ _ _ _ _
 refine PW.seq ?_
 refine PW.sr [0, 2, 14] 0 trivial ?_
 refine PW.cd false (fun hz2 => by cases hz2) (fun hz2 => ?_)
 refine PW.skip ?_
 show PW _ _ _ _ _
 refine PW.sr [2] 0 trivial ?_
 refine PW.ret ?_
 refine retQ_ret (d := I 3) (ps := []) (by kernel_rfl) trivial ?_
 exact ⟨_, rfl⟩
theorem len64_pc_5  : PC Tryz.prog [] 102 [D.v (.int .u64 5)] (fun d => ∃ k, d = I k) := by
 refine PC.of (N := 25) Tryz.func102 rfl rfl (Nat.le_of_ble_eq_true rfl) ?_
 refine PW.sr [0, 2] 0 trivial ?_
 refine PW.seq ?_
 refine PW.sr [0, 2, 4] 0 trivial ?_
 refine PW.cd false (fun hz0 => by cases hz0) (fun hz0 => ?_)
 refine PW.skip ?_
 show PW _ _ _ _ _
 refine PW.seq ?_
 refine PW.sr [0, 2, 8] 0 trivial ?_
 refine PW.cd false (fun hz1 => by cases hz1) (fun hz1 => ?_)
 refine PW.skip ?_
 show PW _ _ _ _ _
 refine PW.seq ?_
 refine PW.sr [0, 2, 14] 0 trivial ?_
 refine PW.cd false (fun hz2 => by cases hz2) (fun hz2 => ?_)
 refine PW.skip ?_
 show PW _ _ _ _ _
 refine PW.sr [2] 0 trivial ?_
 refine PW.ret ?_
 refine retQ_ret (d := I 3) (ps := []) (by kernel_rfl) trivial ?_
 exact ⟨_, rfl⟩
theorem len64_pc_6  : PC Tryz.prog [] 102 [D.v (.int .u64 6)] (fun d => ∃ k, d = I k) := by
 refine PC.of (N := 25) Tryz.func102 rfl rfl (Nat.le_of_ble_eq_true rfl) ?_
 refine PW.sr [0, 2] 0 trivial ?_
 refine PW.seq ?_
 refine PW.sr [0, 2, 4] 0 trivial ?_
 refine PW.cd false (fun hz0 => by cases hz0) (fun hz0 => ?_)
 refine PW.skip ?_
 show PW _ _ _ _ _
 refine PW.seq ?_
 refine PW.sr [0, 2, 8] 0 trivial ?_
 refine PW.cd false (fun hz1 => by cases hz1) (fun hz1 => ?_)
 refine PW.skip ?_
 show PW _ _ _ _ _
 refine PW.seq ?_
 refine PW.sr [0, 2, 14] 0 trivial ?_
 refine PW.cd false (fun hz2 => by cases hz2) (fun hz2 => ?_)
 refine PW.skip ?_
 show PW _ _ _ _ _
 refine PW.sr [2] 0 trivial ?_
 refine PW.ret ?_
 refine retQ_ret (d := I 3) (ps := []) (by kernel_rfl) trivial ?_
 exact ⟨_, rfl⟩
theorem len64_pc_7  : PC Tryz.prog [] 102 [D.v (.int .u64 7)] (fun d => ∃ k, d = I k) := by
 refine PC.of (N := 25) Tryz.func102 rfl rfl (Nat.le_of_ble_eq_true rfl) ?_
 refine PW.sr [0, 2] 0 trivial ?_
 refine PW.seq ?_
 refine PW.sr [0, 2, 4] 0 trivial ?_
 refine PW.cd false (fun hz0 => by cases hz0) (fun hz0 => ?_)
 refine PW.skip ?_
 show PW _ _ _ _ _
 refine PW.seq ?_
 refine PW.sr [0, 2, 8] 0 trivial ?_
 refine PW.cd false (fun hz1 => by cases hz1) (fun hz1 => ?_)
 refine PW.skip ?_
 show PW _ _ _ _ _
 refine PW.seq ?_
 refine PW.sr [0, 2, 14] 0 trivial ?_
 refine PW.cd false (fun hz2 => by cases hz2) (fun hz2 => ?_)
 refine PW.skip ?_
 show PW _ _ _ _ _
 refine PW.sr [2] 0 trivial ?_
 refine PW.ret ?_
 refine retQ_ret (d := I 3) (ps := []) (by kernel_rfl) trivial ?_
 exact ⟨_, rfl⟩
theorem len64_pc_8  : PC Tryz.prog [] 102 [D.v (.int .u64 8)] (fun d => ∃ k, d = I k) := by
 refine PC.of (N := 25) Tryz.func102 rfl rfl (Nat.le_of_ble_eq_true rfl) ?_
 refine PW.sr [0, 2] 0 trivial ?_
 refine PW.seq ?_
 refine PW.sr [0, 2, 4] 0 trivial ?_
 refine PW.cd false (fun hz0 => by cases hz0) (fun hz0 => ?_)
 refine PW.skip ?_
 show PW _ _ _ _ _
 refine PW.seq ?_
 refine PW.sr [0, 2, 8] 0 trivial ?_
 refine PW.cd false (fun hz1 => by cases hz1) (fun hz1 => ?_)
 refine PW.skip ?_
 show PW _ _ _ _ _
 refine PW.seq ?_
 refine PW.sr [0, 2, 14] 0 trivial ?_
 refine PW.cd false (fun hz2 => by cases hz2) (fun hz2 => ?_)
 refine PW.skip ?_
 show PW _ _ _ _ _
 refine PW.sr [2] 0 trivial ?_
 refine PW.ret ?_
 refine retQ_ret (d := I 4) (ps := []) (by kernel_rfl) trivial ?_
 exact ⟨_, rfl⟩
theorem len64_pc_9  : PC Tryz.prog [] 102 [D.v (.int .u64 9)] (fun d => ∃ k, d = I k) := by
 refine PC.of (N := 25) Tryz.func102 rfl rfl (Nat.le_of_ble_eq_true rfl) ?_
 refine PW.sr [0, 2] 0 trivial ?_
 refine PW.seq ?_
 refine PW.sr [0, 2, 4] 0 trivial ?_
 refine PW.cd false (fun hz0 => by cases hz0) (fun hz0 => ?_)
 refine PW.skip ?_
 show PW _ _ _ _ _
 refine PW.seq ?_
 refine PW.sr [0, 2, 8] 0 trivial ?_
 refine PW.cd false (fun hz1 => by cases hz1) (fun hz1 => ?_)
 refine PW.skip ?_
 show PW _ _ _ _ _
 refine PW.seq ?_
 refine PW.sr [0, 2, 14] 0 trivial ?_
 refine PW.cd false (fun hz2 => by cases hz2) (fun hz2 => ?_)
 refine PW.skip ?_
 show PW _ _ _ _ _
 refine PW.sr [2] 0 trivial ?_
 refine PW.ret ?_
 refine retQ_ret (d := I 4) (ps := []) (by kernel_rfl) trivial ?_
 exact ⟨_, rfl⟩
theorem len64_pc_10  : PC Tryz.prog [] 102 [D.v (.int .u64 10)] (fun d => ∃ k, d = I k) := by
 refine PC.of (N := 25) Tryz.func102 rfl rfl (Nat.le_of_ble_eq_true rfl) ?_
 refine PW.sr [0, 2] 0 trivial ?_
 refine PW.seq ?_
 refine PW.sr [0, 2, 4] 0 trivial ?_
 refine PW.cd false (fun hz0 => by cases hz0) (fun hz0 => ?_)
 refine PW.skip ?_
 show PW _ _ _ _ _
 refine PW.seq ?_
 refine PW.sr [0, 2, 8] 0 trivial ?_
 refine PW.cd false (fun hz1 => by cases hz1) (fun hz1 => ?_)
 refine PW.skip ?_
 show PW _ _ _ _ _
 refine PW.seq ?_
 refine PW.sr [0, 2, 14] 0 trivial ?_
 refine PW.cd false (fun hz2 => by cases hz2) (fun hz2 => ?_)
 refine PW.skip ?_
 show PW _ _ _ _ _
 refine PW.sr [2] 0 trivial ?_
 refine PW.ret ?_
 refine retQ_ret (d := I 4) (ps := []) (by kernel_rfl) trivial ?_
 exact ⟨_, rfl⟩
theorem len64_pc_11  : PC Tryz.prog [] 102 [D.v (.int .u64 11)] (fun d => ∃ k, d = I k) := by
 refine PC.of (N := 25) Tryz.func102 rfl rfl (Nat.le_of_ble_eq_true rfl) ?_
 refine PW.sr [0, 2] 0 trivial ?_
 refine PW.seq ?_
 refine PW.sr [0, 2, 4] 0 trivial ?_
 refine PW.cd false (fun hz0 => by cases hz0) (fun hz0 => ?_)
 refine PW.skip ?_
 show PW _ _ _ _ _
 refine PW.seq ?_
 refine PW.sr [0, 2, 8] 0 trivial ?_
 refine PW.cd false (fun hz1 => by cases hz1) (fun hz1 => ?_)
 refine PW.skip ?_
 show PW _ _ _ _ _
 refine PW.seq ?_
 refine PW.sr [0, 2, 14] 0 trivial ?_
 refine PW.cd false (fun hz2 => by cases hz2) (fun hz2 => ?_)
 refine PW.skip ?_
 show PW _ _ _ _ _
 refine PW.sr [2] 0 trivial ?_
 refine PW.ret ?_
 refine retQ_ret (d := I 4) (ps := []) (by kernel_rfl) trivial ?_
 exact ⟨_, rfl⟩
theorem len64_pc_12  : PC Tryz.prog [] 102 [D.v (.int .u64 12)] (fun d => ∃ k, d = I k) := by
 refine PC.of (N := 25) Tryz.func102 rfl rfl (Nat.le_of_ble_eq_true rfl) ?_
 refine PW.sr [0, 2] 0 trivial ?_
 refine PW.seq ?_
 refine PW.sr [0, 2, 4] 0 trivial ?_
 refine PW.cd false (fun hz0 => by cases hz0) (fun hz0 => ?_)
 refine PW.skip ?_
 show PW _ _ _ _ _
 refine PW.seq ?_
 refine PW.sr [0, 2, 8] 0 trivial ?_
 refine PW.cd false (fun hz1 => by cases hz1) (fun hz1 => ?_)
 refine PW.skip ?_
 show PW _ _ _ _ _
 refine PW.seq ?_
 refine PW.sr [0, 2, 14] 0 trivial ?_
 refine PW.cd false (fun hz2 => by cases hz2) (fun hz2 => ?_)
 refine PW.skip ?_
 show PW _ _ _ _ _
 refine PW.sr [2] 0 trivial ?_
 refine PW.ret ?_
 refine retQ_ret (d := I 4) (ps := []) (by kernel_rfl) trivial ?_
 exact ⟨_, rfl⟩
theorem len_pc_0  : PC Tryz.prog [] 91 [D.v (.int .u64 0)] (fun d => ∃ k, d = I k) := by
 refine PC.of (N := 8) Tryz.func91 rfl rfl (Nat.le_of_ble_eq_true rfl) ?_
 refine PW.sr [0] 0 trivial ?_
 refine PW.seq ?_
 refine PW.cd false (fun hz0 => by cases hz0) (fun hz0 => ?_)
 refine PW.skip ?_
 show PW _ _ _ _ _
 refine PW.sg ?_
 refine PL.rw 1 [6] 0 trivial ?_
 refine PL.cl (f := 102) (ds := [D.v (.int .u64 0)]) (len64_pc_0) ?_
 rintro _ ⟨k, rfl⟩
 refine PL.rw 1 [2] 0 trivial ?_
 refine PL.nl ?_
 refine PW.ret ?_
 refine retQ_ret (d := I k) (ps := []) (by kernel_rfl) trivial ?_
 exact ⟨_, rfl⟩
theorem len_pc_1  : PC Tryz.prog [] 91 [D.v (.int .u64 1)] (fun d => ∃ k, d = I k) := by
 refine PC.of (N := 8) Tryz.func91 rfl rfl (Nat.le_of_ble_eq_true rfl) ?_
 refine PW.sr [0] 0 trivial ?_
 refine PW.seq ?_
 refine PW.cd false (fun hz0 => by cases hz0) (fun hz0 => ?_)
 refine PW.skip ?_
 show PW _ _ _ _ _
 refine PW.sg ?_
 refine PL.rw 1 [6] 0 trivial ?_
 refine PL.cl (f := 102) (ds := [D.v (.int .u64 1)]) (len64_pc_1) ?_
 rintro _ ⟨k, rfl⟩
 refine PL.rw 1 [2] 0 trivial ?_
 refine PL.nl ?_
 refine PW.ret ?_
 refine retQ_ret (d := I k) (ps := []) (by kernel_rfl) trivial ?_
 exact ⟨_, rfl⟩
theorem len_pc_2  : PC Tryz.prog [] 91 [D.v (.int .u64 2)] (fun d => ∃ k, d = I k) := by
 refine PC.of (N := 8) Tryz.func91 rfl rfl (Nat.le_of_ble_eq_true rfl) ?_
 refine PW.sr [0] 0 trivial ?_
 refine PW.seq ?_
 refine PW.cd false (fun hz0 => by cases hz0) (fun hz0 => ?_)
 refine PW.skip ?_
 show PW _ _ _ _ _
 refine PW.sg ?_
 refine PL.rw 1 [6] 0 trivial ?_
 refine PL.cl (f := 102) (ds := [D.v (.int .u64 2)]) (len64_pc_2) ?_
 rintro _ ⟨k, rfl⟩
 refine PL.rw 1 [2] 0 trivial ?_
 refine PL.nl ?_
 refine PW.ret ?_
 refine retQ_ret (d := I k) (ps := []) (by kernel_rfl) trivial ?_
 exact ⟨_, rfl⟩
theorem len_pc_3  : PC Tryz.prog [] 91 [D.v (.int .u64 3)] (fun d => ∃ k, d = I k) := by
 refine PC.of (N := 8) Tryz.func91 rfl rfl (Nat.le_of_ble_eq_true rfl) ?_
 refine PW.sr [0] 0 trivial ?_
 refine PW.seq ?_
 refine PW.cd false (fun hz0 => by cases hz0) (fun hz0 => ?_)
 refine PW.skip ?_
 show PW _ _ _ _ _
 refine PW.sg ?_
 refine PL.rw 1 [6] 0 trivial ?_
 refine PL.cl (f := 102) (ds := [D.v (.int .u64 3)]) (len64_pc_3) ?_
 rintro _ ⟨k, rfl⟩
 refine PL.rw 1 [2] 0 trivial ?_
 refine PL.nl ?_
 refine PW.ret ?_
 refine retQ_ret (d := I k) (ps := []) (by kernel_rfl) trivial ?_
 exact ⟨_, rfl⟩
theorem len_pc_4  : PC Tryz.prog [] 91 [D.v (.int .u64 4)] (fun d => ∃ k, d = I k) := by
 refine PC.of (N := 8) Tryz.func91 rfl rfl (Nat.le_of_ble_eq_true rfl) ?_
 refine PW.sr [0] 0 trivial ?_
 refine PW.seq ?_
 refine PW.cd false (fun hz0 => by cases hz0) (fun hz0 => ?_)
 refine PW.skip ?_
 show PW _ _ _ _ _
 refine PW.sg ?_
 refine PL.rw 1 [6] 0 trivial ?_
 refine PL.cl (f := 102) (ds := [D.v (.int .u64 4)]) (len64_pc_4) ?_
 rintro _ ⟨k, rfl⟩
 refine PL.rw 1 [2] 0 trivial ?_
 refine PL.nl ?_
 refine PW.ret ?_
 refine retQ_ret (d := I k) (ps := []) (by kernel_rfl) trivial ?_
 exact ⟨_, rfl⟩
theorem len_pc_5  : PC Tryz.prog [] 91 [D.v (.int .u64 5)] (fun d => ∃ k, d = I k) := by
 refine PC.of (N := 8) Tryz.func91 rfl rfl (Nat.le_of_ble_eq_true rfl) ?_
 refine PW.sr [0] 0 trivial ?_
 refine PW.seq ?_
 refine PW.cd false (fun hz0 => by cases hz0) (fun hz0 => ?_)
 refine PW.skip ?_
 show PW _ _ _ _ _
 refine PW.sg ?_
 refine PL.rw 1 [6] 0 trivial ?_
 refine PL.cl (f := 102) (ds := [D.v (.int .u64 5)]) (len64_pc_5) ?_
 rintro _ ⟨k, rfl⟩
 refine PL.rw 1 [2] 0 trivial ?_
 refine PL.nl ?_
 refine PW.ret ?_
 refine retQ_ret (d := I k) (ps := []) (by kernel_rfl) trivial ?_
 exact ⟨_, rfl⟩
theorem len_pc_6  : PC Tryz.prog [] 91 [D.v (.int .u64 6)] (fun d => ∃ k, d = I k) := by
 refine PC.of (N := 8) Tryz.func91 rfl rfl (Nat.le_of_ble_eq_true rfl) ?_
 refine PW.sr [0] 0 trivial ?_
 refine PW.seq ?_
 refine PW.cd false (fun hz0 => by cases hz0) (fun hz0 => ?_)
 refine PW.skip ?_
 show PW _ _ _ _ _
 refine PW.sg ?_
 refine PL.rw 1 [6] 0 trivial ?_
 refine PL.cl (f := 102) (ds := [D.v (.int .u64 6)]) (len64_pc_6) ?_
 rintro _ ⟨k, rfl⟩
 refine PL.rw 1 [2] 0 trivial ?_
 refine PL.nl ?_
 refine PW.ret ?_
 refine retQ_ret (d := I k) (ps := []) (by kernel_rfl) trivial ?_
 exact ⟨_, rfl⟩
theorem len_pc_7  : PC Tryz.prog [] 91 [D.v (.int .u64 7)] (fun d => ∃ k, d = I k) := by
 refine PC.of (N := 8) Tryz.func91 rfl rfl (Nat.le_of_ble_eq_true rfl) ?_
 refine PW.sr [0] 0 trivial ?_
 refine PW.seq ?_
 refine PW.cd false (fun hz0 => by cases hz0) (fun hz0 => ?_)
 refine PW.skip ?_
 show PW _ _ _ _ _
 refine PW.sg ?_
 refine PL.rw 1 [6] 0 trivial ?_
 refine PL.cl (f := 102) (ds := [D.v (.int .u64 7)]) (len64_pc_7) ?_
 rintro _ ⟨k, rfl⟩
 refine PL.rw 1 [2] 0 trivial ?_
 refine PL.nl ?_
 refine PW.ret ?_
 refine retQ_ret (d := I k) (ps := []) (by kernel_rfl) trivial ?_
 exact ⟨_, rfl⟩
theorem len_pc_8  : PC Tryz.prog [] 91 [D.v (.int .u64 8)] (fun d => ∃ k, d = I k) := by
 refine PC.of (N := 8) Tryz.func91 rfl rfl (Nat.le_of_ble_eq_true rfl) ?_
 refine PW.sr [0] 0 trivial ?_
 refine PW.seq ?_
 refine PW.cd false (fun hz0 => by cases hz0) (fun hz0 => ?_)
 refine PW.skip ?_
 show PW _ _ _ _ _
 refine PW.sg ?_
 refine PL.rw 1 [6] 0 trivial ?_
 refine PL.cl (f := 102) (ds := [D.v (.int .u64 8)]) (len64_pc_8) ?_
 rintro _ ⟨k, rfl⟩
 refine PL.rw 1 [2] 0 trivial ?_
 refine PL.nl ?_
 refine PW.ret ?_
 refine retQ_ret (d := I k) (ps := []) (by kernel_rfl) trivial ?_
 exact ⟨_, rfl⟩
theorem len_pc_9  : PC Tryz.prog [] 91 [D.v (.int .u64 9)] (fun d => ∃ k, d = I k) := by
 refine PC.of (N := 8) Tryz.func91 rfl rfl (Nat.le_of_ble_eq_true rfl) ?_
 refine PW.sr [0] 0 trivial ?_
 refine PW.seq ?_
 refine PW.cd false (fun hz0 => by cases hz0) (fun hz0 => ?_)
 refine PW.skip ?_
 show PW _ _ _ _ _
 refine PW.sg ?_
 refine PL.rw 1 [6] 0 trivial ?_
 refine PL.cl (f := 102) (ds := [D.v (.int .u64 9)]) (len64_pc_9) ?_
 rintro _ ⟨k, rfl⟩
 refine PL.rw 1 [2] 0 trivial ?_
 refine PL.nl ?_
 refine PW.ret ?_
 refine retQ_ret (d := I k) (ps := []) (by kernel_rfl) trivial ?_
 exact ⟨_, rfl⟩
theorem len_pc_10  : PC Tryz.prog [] 91 [D.v (.int .u64 10)] (fun d => ∃ k, d = I k) := by
 refine PC.of (N := 8) Tryz.func91 rfl rfl (Nat.le_of_ble_eq_true rfl) ?_
 refine PW.sr [0] 0 trivial ?_
 refine PW.seq ?_
 refine PW.cd false (fun hz0 => by cases hz0) (fun hz0 => ?_)
 refine PW.skip ?_
 show PW _ _ _ _ _
 refine PW.sg ?_
 refine PL.rw 1 [6] 0 trivial ?_
 refine PL.cl (f := 102) (ds := [D.v (.int .u64 10)]) (len64_pc_10) ?_
 rintro _ ⟨k, rfl⟩
 refine PL.rw 1 [2] 0 trivial ?_
 refine PL.nl ?_
 refine PW.ret ?_
 refine retQ_ret (d := I k) (ps := []) (by kernel_rfl) trivial ?_
 exact ⟨_, rfl⟩
theorem len_pc_11  : PC Tryz.prog [] 91 [D.v (.int .u64 11)] (fun d => ∃ k, d = I k) := by
 refine PC.of (N := 8) Tryz.func91 rfl rfl (Nat.le_of_ble_eq_true rfl) ?_
 refine PW.sr [0] 0 trivial ?_
 refine PW.seq ?_
 refine PW.cd false (fun hz0 => by cases hz0) (fun hz0 => ?_)
 refine PW.skip ?_
 show PW _ _ _ _ _
 refine PW.sg ?_
 refine PL.rw 1 [6] 0 trivial ?_
 refine PL.cl (f := 102) (ds := [D.v (.int .u64 11)]) (len64_pc_11) ?_
 rintro _ ⟨k, rfl⟩
 refine PL.rw 1 [2] 0 trivial ?_
 refine PL.nl ?_
 refine PW.ret ?_
 refine retQ_ret (d := I k) (ps := []) (by kernel_rfl) trivial ?_
 exact ⟨_, rfl⟩
theorem len_pc_12  : PC Tryz.prog [] 91 [D.v (.int .u64 12)] (fun d => ∃ k, d = I k) := by
 refine PC.of (N := 8) Tryz.func91 rfl rfl (Nat.le_of_ble_eq_true rfl) ?_
 refine PW.sr [0] 0 trivial ?_
 refine PW.seq ?_
 refine PW.cd false (fun hz0 => by cases hz0) (fun hz0 => ?_)
 refine PW.skip ?_
 show PW _ _ _ _ _
 refine PW.sg ?_
 refine PL.rw 1 [6] 0 trivial ?_
 refine PL.cl (f := 102) (ds := [D.v (.int .u64 12)]) (len64_pc_12) ?_
 rintro _ ⟨k, rfl⟩
 refine PL.rw 1 [2] 0 trivial ?_
 refine PL.nl ?_
 refine PW.ret ?_
 refine retQ_ret (d := I k) (ps := []) (by kernel_rfl) trivial ?_
 exact ⟨_, rfl⟩
theorem len_pc (n : Nat) (h : n ≤ 12) : PC Tryz.prog [] 91 [D.v (.int .u64 (IntKind.u64.wrap (n : Int)))] (fun d => ∃ k, d = I k) := match n, h with
  | 0, _ => len_pc_0
  | 1, _ => len_pc_1
  | 2, _ => len_pc_2
  | 3, _ => len_pc_3
  | 4, _ => len_pc_4
  | 5, _ => len_pc_5
  | 6, _ => len_pc_6
  | 7, _ => len_pc_7
  | 8, _ => len_pc_8
  | 9, _ => len_pc_9
  | 10, _ => len_pc_10
  | 11, _ => len_pc_11
  | 12, _ => len_pc_12
  | n + 13, h => absurd h (by omega)
end Go.Proofs.YtleflkgdbagmnaaGreatDoor.Pl
