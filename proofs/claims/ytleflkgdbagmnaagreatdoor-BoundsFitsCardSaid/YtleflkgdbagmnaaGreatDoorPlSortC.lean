/- slices.SortFunc of at most twelve ports. -/
import Derived.Test.YtleflkgdbagmnaaGreatDoorPlSortB
namespace Go.Proofs.YtleflkgdbagmnaaGreatDoor.Pl
open Go.RowKit Go.Proofs.YtleflkgdbagmnaaGreatDoor.Sm Go.Proofs.YtleflkgdbagmnaaGreatDoor.Dp
set_option maxHeartbeats 4000000
set_option maxRecDepth 100000
set_option linter.unusedVariables false
set_option linter.unusedSimpArgs false
theorem wrap0 (n : Nat) (h : n ≤ 12) : IntKind.i64.wrap ((n : Int) - 0) = (n : Int) := by rw [Ev.wrap_i64 (by omega) (by omega)]; omega
theorem pdqsort_pm (xs : List Port) (n : Nat) (hx : xs.length = n) (hn : n ≤ 12) (k : Int) : PM Tryz.prog [] 90 [D.h 0 n, I 0, I (n : Int), I k, D.v (.func (.func 87) #[] #[])] (Obj.row 117 4 n (fun j => [I ((xs.getD j default).node), I ((xs.getD j default).link), I ((xs.getD j default).gate), I ((xs.getD j default).side)])) (fun d ob => d = D.t [] ∧ ∃ ys : List Port, ob = Obj.row 117 4 n (fun j => [I ((ys.getD j default).node), I ((ys.getD j default).link), I ((ys.getD j default).gate), I ((ys.getD j default).side)]) ∧ ys.Perm xs ∧ Srt ys n) := by
  refine PM.of (N := 148) Tryz.func90 rfl rfl (Nat.le_of_ble_eq_true rfl) ?_
  refine PW.seq ?_
  refine PW.region ?_
  refine PL.rowK 1 [0, 1, 2, 3, 4, 10] 1 (s' := { tab := [⟨0, [], D.h 0 n⟩, ⟨1, [], I 0⟩, ⟨2, [], I (n : Int)⟩, ⟨3, [], I k⟩, ⟨4, [], D.v (.func (.func 87) #[] #[])⟩, ⟨10, [], D.v (.bool true)⟩], mem := [Obj.row 117 4 n (fun j => [I ((xs.getD j default).node), I ((xs.getD j default).link), I ((xs.getD j default).gate), I ((xs.getD j default).side)])], fx := 1 }) (p := True) (by kernel_rfl) (by trivial) ?_
  refine PL.nil ?_
  show PW _ _ _ _ _
  refine PW.seq ?_
  refine PW.region ?_
  refine PL.rowK 1 [0, 1, 2, 3, 4, 10, 11] 1 (s' := { tab := [⟨0, [], D.h 0 n⟩, ⟨1, [], I 0⟩, ⟨2, [], I (n : Int)⟩, ⟨3, [], I k⟩, ⟨4, [], D.v (.func (.func 87) #[] #[])⟩, ⟨10, [], D.v (.bool true)⟩, ⟨11, [], D.v (.bool true)⟩], mem := [Obj.row 117 4 n (fun j => [I ((xs.getD j default).node), I ((xs.getD j default).link), I ((xs.getD j default).gate), I ((xs.getD j default).side)])], fx := 1 }) (p := True) (by kernel_rfl) (by trivial) ?_
  refine PL.nil ?_
  show PW _ _ _ _ _
  refine PW.block ?_
  refine PW.rounds 1 ?_
  refine PR.succ ?_
  refine PW.block ?_
  refine PW.seq ?_
  refine PW.region ?_
  refine PL.rowK 4 [0, 1, 2, 3, 4, 10, 11, 12] 1 (s' := { tab := [⟨0, [], D.h 0 n⟩, ⟨1, [], I 0⟩, ⟨2, [], I (n : Int)⟩, ⟨3, [], I k⟩, ⟨4, [], D.v (.func (.func 87) #[] #[])⟩, ⟨10, [], D.v (.bool true)⟩, ⟨11, [], D.v (.bool true)⟩, ⟨12, [], I (IntKind.i64.wrap ((n : Int) - 0))⟩], mem := [Obj.row 117 4 n (fun j => [I ((xs.getD j default).node), I ((xs.getD j default).link), I ((xs.getD j default).gate), I ((xs.getD j default).side)])], fx := 1 }) (p := True) (by kernel_rfl) (by trivial) ?_
  refine PL.nil ?_
  show PW _ _ _ _ _
  refine PW.seq ?_
  refine PW.seq ?_
  refine PW.region ?_
  refine PL.rowK 2 [0, 1, 2, 3, 4, 10, 11, 12, 25] 1 (s' := { tab := [⟨0, [], D.h 0 n⟩, ⟨1, [], I 0⟩, ⟨2, [], I (n : Int)⟩, ⟨3, [], I k⟩, ⟨4, [], D.v (.func (.func 87) #[] #[])⟩, ⟨10, [], D.v (.bool true)⟩, ⟨11, [], D.v (.bool true)⟩, ⟨12, [], I (IntKind.i64.wrap ((n : Int) - 0))⟩, ⟨25, [], D.v (.bool (decide ((IntKind.i64.wrap ((n : Int) - 0)) ≤ (12 : Int))))⟩], mem := [Obj.row 117 4 n (fun j => [I ((xs.getD j default).node), I ((xs.getD j default).link), I ((xs.getD j default).gate), I ((xs.getD j default).side)])], fx := 1 }) (p := True) (by kernel_rfl) (by trivial) ?_
  refine PL.nil ?_
  show PW _ _ _ _ _
  refine PW.cond (z := (decide ((IntKind.i64.wrap ((n : Int) - 0)) ≤ (12 : Int)))) (by kernel_rfl) (fun hz0 => ?_) (fun hz0 => ?_)
  · skip
    try simp only [boolS, isB_true, isB_false] at hz0
    refine PW.seq ?_
    refine PW.region ?_
    refine PL.rowK 4 [26, 27, 28, 29] 1 (s' := { tab := [⟨26, [], D.h 0 n⟩, ⟨27, [], I 0⟩, ⟨28, [], I (n : Int)⟩, ⟨29, [], D.v (.func (.func 87) #[] #[])⟩], mem := [Obj.row 117 4 n (fun j => [I ((xs.getD j default).node), I ((xs.getD j default).link), I ((xs.getD j default).gate), I ((xs.getD j default).side)])], fx := 1 }) (p := True) (by kernel_rfl) (by trivial) ?_
    refine PL.callM (f := 93) (ds0 := [D.h 0 n, I 0, I (n : Int), D.v (.func (.func 87) #[] #[])]) (ds := [D.h 0 n, I 0, I (n : Int), D.v (.func (.func 87) #[] #[])]) (ob := Obj.row 117 4 n (fun j => [I ((xs.getD j default).node), I ((xs.getD j default).link), I ((xs.getD j default).gate), I ((xs.getD j default).side)])) 0 (by kernel_rfl) (by kernel_rfl) (by kernel_rfl) (by kernel_rfl) (by kernel_rfl) (by kernel_rfl) rfl (insertionSort_pm xs n hx hn) ?_
    rintro _ _ ⟨rfl, ys, rfl, hp, hs⟩
    refine PL.nil ?_
    show PW _ _ _ _ _
    refine PW.ret ?_
    refine retM_ret (d := D.t []) (ps := []) (ob := Obj.row 117 4 n (fun j => [I ((ys.getD j default).node), I ((ys.getD j default).link), I ((ys.getD j default).gate), I ((ys.getD j default).side)])) (by kernel_rfl) trivial (by kernel_rfl) (by kernel_rfl) ?_
    exact ⟨rfl, ys, rfl, hp, hs⟩
  · skip
    try simp only [boolS, isB_true, isB_false] at hz0
    refine PW.skip ?_
    show PW _ _ _ _ _
    refine PW.seq ?_
    refine PW.seq ?_
    exfalso; rw [wrap0 n hn] at hz0; omega
theorem sortFunc_pm (xs : List Port) (n : Nat) (hx : xs.length = n) (hn : n ≤ 12) : PM Tryz.prog [] 86 [D.h 0 n, D.v (.func (.func 87) #[] #[])] (Obj.row 117 4 n (fun j => [I ((xs.getD j default).node), I ((xs.getD j default).link), I ((xs.getD j default).gate), I ((xs.getD j default).side)])) (fun d ob => d = D.t [] ∧ ∃ ys : List Port, ob = Obj.row 117 4 n (fun j => [I ((ys.getD j default).node), I ((ys.getD j default).link), I ((ys.getD j default).gate), I ((ys.getD j default).side)]) ∧ ys.Perm xs ∧ Srt ys n) := by
  refine PM.of (N := 14) Tryz.func86 rfl rfl (Nat.le_of_ble_eq_true rfl) ?_
  refine PW.seq ?_
  refine PW.region ?_
  refine PL.rowK 3 [0, 1, 4] 1 (s' := { tab := [⟨0, [], D.h 0 n⟩, ⟨1, [], D.v (.func (.func 87) #[] #[])⟩, ⟨4, [], I (n : Int)⟩], mem := [Obj.row 117 4 n (fun j => [I ((xs.getD j default).node), I ((xs.getD j default).link), I ((xs.getD j default).gate), I ((xs.getD j default).side)])], fx := 1 }) (p := True) (by kernel_rfl) (by trivial) ?_
  refine PL.nil ?_
  show PW _ _ _ _ _
  refine PW.region ?_
  refine PL.rowK 4 [1, 7, 8, 10] 1 (s' := { tab := [⟨1, [], D.v (.func (.func 87) #[] #[])⟩, ⟨7, [], D.h 0 n⟩, ⟨8, [], I (n : Int)⟩, ⟨10, [], D.v (.int .u64 (IntKind.u64.wrap (n : Int)))⟩], mem := [Obj.row 117 4 n (fun j => [I ((xs.getD j default).node), I ((xs.getD j default).link), I ((xs.getD j default).gate), I ((xs.getD j default).side)])], fx := 1 }) (p := True) (by kernel_rfl) (by trivial) ?_
  refine PL.call (f := 91) (ds := [D.v (.int .u64 (IntKind.u64.wrap (n : Int)))]) (by kernel_rfl) (by kernel_rfl) (by kernel_rfl) (by kernel_rfl) rfl (len_pc n hn) ?_
  rintro _ ⟨k, rfl⟩
  refine PL.rowK 1 [7, 8, 11, 12] 1 (s' := { tab := [⟨7, [], D.h 0 n⟩, ⟨8, [], I (n : Int)⟩, ⟨11, [], I k⟩, ⟨12, [], D.v (.func (.func 87) #[] #[])⟩], mem := [Obj.row 117 4 n (fun j => [I ((xs.getD j default).node), I ((xs.getD j default).link), I ((xs.getD j default).gate), I ((xs.getD j default).side)])], fx := 1 }) (p := True) (by kernel_rfl) (by trivial) ?_
  refine PL.callM (f := 90) (ds0 := [D.h 0 n, I 0, I (n : Int), I k, D.v (.func (.func 87) #[] #[])]) (ds := [D.h 0 n, I 0, I (n : Int), I k, D.v (.func (.func 87) #[] #[])]) (ob := Obj.row 117 4 n (fun j => [I ((xs.getD j default).node), I ((xs.getD j default).link), I ((xs.getD j default).gate), I ((xs.getD j default).side)])) 0 (by kernel_rfl) (by kernel_rfl) (by kernel_rfl) (by kernel_rfl) (by kernel_rfl) (by kernel_rfl) rfl (pdqsort_pm xs n hx hn k) ?_
  rintro _ _ ⟨rfl, ys, rfl, hp, hs⟩
  refine PL.nil ?_
  refine retM_normal (d := D.t []) (ps := []) (ob := Obj.row 117 4 n (fun j => [I ((ys.getD j default).node), I ((ys.getD j default).link), I ((ys.getD j default).gate), I ((ys.getD j default).side)])) (by kernel_rfl) trivial (by kernel_rfl) (by kernel_rfl) ?_
  exact ⟨rfl, ys, rfl, hp, hs⟩
end Go.Proofs.YtleflkgdbagmnaaGreatDoor.Pl
