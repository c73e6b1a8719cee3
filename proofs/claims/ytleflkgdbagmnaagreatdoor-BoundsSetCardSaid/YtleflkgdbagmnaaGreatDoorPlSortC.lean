/- slices.SortFunc of at most twelve ports. -/
import Derived.Test.YtleflkgdbagmnaaGreatDoorPlSortB
namespace Go.Proofs.YtleflkgdbagmnaaGreatDoor.Pl
open Go.RowKit Go.Proofs.YtleflkgdbagmnaaGreatDoor.Sm Go.Proofs.YtleflkgdbagmnaaGreatDoor.Dp
set_option maxHeartbeats 4000000
set_option maxRecDepth 100000
set_option linter.unusedVariables false
set_option linter.unusedSimpArgs false
theorem wrap0 (n : Nat) (h : n ≤ 12) : IntKind.i64.wrap ((n : Int) - 0) = (n : Int) := by rw [Ev.wrap_i64 (by omega) (by omega)]; omega
theorem pdqsort_pm (xs : List Port) (n : Nat) (hx : xs.length = n) (hn : n ≤ 12) (k : Int) : PM Tryz.prog [] 90 [D.h 0 n, I 0, I (n : Int), I k, D.v (.func (.func 87) #[] #[])] (Obj.row 117 4 n (fun j => [I ((xs.getD j default).node), I ((xs.getD j default).link), I ((xs.getD j default).gate), I ((xs.getD j default).side)])) (fun d ob => d = D.t [] ∧ ∃ ys : List Port, ob = Obj.row 117 4 n (fun j => [I ((ys.getD j default).node), I ((ys.getD j default).link), I ((ys.getD j default).gate), I ((ys.getD j default).side)]) ∧ ys.Perm xs ∧ Srt ys n) := by
 refine PM.of (N := 148) Tryz.func90 rfl rfl (Nat.le_of_ble_eq_true rfl) ?_
 refine PW.sr [0, 1, 2, 3, 4, 10] 1 trivial ?_
 refine PW.sr [0, 1, 2, 3, 4, 10, 11] 1 trivial ?_
 refine PW.block ?_
 refine PW.rounds 1 ?_
 refine PR.succ ?_
 refine PW.block ?_
 refine PW.sr [0, 1, 2, 3, 4, 10, 11, 12] 1 trivial ?_
 refine PW.seq ?_
 refine PW.sr [0, 1, 2, 3, 4, 10, 11, 12, 25] 1 trivial ?_
 refine PW.cd (decide ((IntKind.i64.wrap ((n : Int) - 0)) ≤ (12 : Int))) (fun hz0 => ?_) (fun hz0 => ?_)
 ·try simp only [boolS, isB_true, isB_false] at hz0
  refine PW.sg ?_
  refine PL.rw 4 [26, 27, 28, 29] 1 trivial ?_
  refine PL.cm (f := 93) (ds := [D.h 0 n, I 0, I (n : Int), D.v (.func (.func 87) #[] #[])]) (ob := Obj.row 117 4 n (fun j => [I ((xs.getD j default).node), I ((xs.getD j default).link), I ((xs.getD j default).gate), I ((xs.getD j default).side)])) 0 (insertionSort_pm xs n hx hn) ?_
  rintro _ _ ⟨rfl, ys, rfl, hp, hs⟩
  refine PL.nl ?_
  refine PW.ret ?_
  refine retM_ret (d := D.t []) (ps := []) (ob := Obj.row 117 4 n (fun j => [I ((ys.getD j default).node), I ((ys.getD j default).link), I ((ys.getD j default).gate), I ((ys.getD j default).side)])) (by kernel_rfl) trivial (by kernel_rfl) (by kernel_rfl) ?_
  exact ⟨rfl, ys, rfl, hp, hs⟩
 ·try simp only [boolS, isB_true, isB_false] at hz0
  refine PW.skip ?_
  show PW _ _ _ _ _
  refine PW.seq ?_
  refine PW.seq ?_
  exfalso; rw [wrap0 n hn] at hz0; omega
theorem sortFunc_pm (xs : List Port) (n : Nat) (hx : xs.length = n) (hn : n ≤ 12) : PM Tryz.prog [] 86 [D.h 0 n, D.v (.func (.func 87) #[] #[])] (Obj.row 117 4 n (fun j => [I ((xs.getD j default).node), I ((xs.getD j default).link), I ((xs.getD j default).gate), I ((xs.getD j default).side)])) (fun d ob => d = D.t [] ∧ ∃ ys : List Port, ob = Obj.row 117 4 n (fun j => [I ((ys.getD j default).node), I ((ys.getD j default).link), I ((ys.getD j default).gate), I ((ys.getD j default).side)]) ∧ ys.Perm xs ∧ Srt ys n) := by
 refine PM.of (N := 14) Tryz.func86 rfl rfl (Nat.le_of_ble_eq_true rfl) ?_
 refine PW.sr [0, 1, 4] 1 trivial ?_
 refine PW.region ?_
 refine PL.rw 4 [1, 7, 8, 10] 1 trivial ?_
 refine PL.cl (f := 91) (ds := [D.v (.int .u64 (IntKind.u64.wrap (n : Int)))]) (len_pc n hn) ?_
 rintro _ ⟨k, rfl⟩
 refine PL.rw 1 [7, 8, 11, 12] 1 trivial ?_
 refine PL.cm (f := 90) (ds := [D.h 0 n, I 0, I (n : Int), I k, D.v (.func (.func 87) #[] #[])]) (ob := Obj.row 117 4 n (fun j => [I ((xs.getD j default).node), I ((xs.getD j default).link), I ((xs.getD j default).gate), I ((xs.getD j default).side)])) 0 (pdqsort_pm xs n hx hn k) ?_
 rintro _ _ ⟨rfl, ys, rfl, hp, hs⟩
 refine PL.nil ?_
 refine retM_normal (d := D.t []) (ps := []) (ob := Obj.row 117 4 n (fun j => [I ((ys.getD j default).node), I ((ys.getD j default).link), I ((ys.getD j default).gate), I ((ys.getD j default).side)])) (by kernel_rfl) trivial (by kernel_rfl) (by kernel_rfl) ?_
 exact ⟨rfl, ys, rfl, hp, hs⟩
end Go.Proofs.YtleflkgdbagmnaaGreatDoor.Pl
