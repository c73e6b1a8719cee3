/- slices.Max. -/
import Derived.Test.YtleflkgdbagmnaaDoorHpGood
namespace Go.Proofs.YtleflkgdbagmnaaDoor.Pl
open Go.RowKit Go.Proofs.YtleflkgdbagmnaaDoor.Sm Go.Proofs.YtleflkgdbagmnaaDoor.Dp
set_option maxHeartbeats 4000000
set_option maxRecDepth 100000
set_option linter.unusedVariables false
set_option linter.unusedSimpArgs false
/-- the greatest of the first i. -/
def maxTo (xs : List Int) : Nat → Int
  | 0 => xs.getD 0 default
  | i + 1 => if xs.getD i default > maxTo xs i then xs.getD i default else maxTo xs i
theorem slices_Max_pc (xs : List Int) (hx : 1 ≤ xs.length) (hx1 : xs.length < 1000000) : PC Tryd.prog [] 27 [sl' 1 (fun x => [I x]) xs] (· = I (maxTo xs xs.length)) := by
 refine PC.of (N := 25) Tryd.func27 rfl rfl (Nat.le_of_ble_eq_true rfl) ?_
 refine PW.sr [0] 0 trivial ?_
 refine PW.seq ?_
 refine PW.sr [0, 7] 0 trivial ?_
 refine PW.cd (decide ((xs.length : Int) < (1 : Int))) (fun hz0 => ?_) (fun hz0 => ?_)
 ·try simp only [boolS, isB_true, isB_false] at hz0
  exfalso; omega
 ·try simp only [boolS, isB_true, isB_false] at hz0
  refine PW.skip ?_
  show PW _ _ _ _ _
  refine PW.sr [0, 3] 0 (p := (0 ≤ (0 : Int) ∧ (0 : Int) < (xs.length : Int))) (by omega) ?_
  refine PW.seq ?_
  refine PW.sr [0, 3, 4] 0 trivial ?_
  refine PW.block ?_
  refine PW.lp (α := Nat × Int) (fun (i, v) => { tab := [⟨0, [], sl' 1 (fun x => [I x]) xs⟩, ⟨3, [], I v⟩, ⟨4, [], I (i : Int)⟩], mem := [] }) (fun (i, v) => 1 ≤ i ∧ i ≤ xs.length ∧ v = maxTo xs i) (fun (i, v) => xs.length - i) [0, 3, 4] 0 (1, xs.getD 0 default) ?_ ?_
  ·dsimp only
   exact ⟨by omega, by omega, by simp [maxTo]⟩
  rintro ⟨i, v⟩ hinv
  dsimp only at hinv
  show PW _ _ _ _ _
  refine PW.seq ?_
  refine PW.sr [0, 3, 4, 15] 0 trivial ?_
  refine PW.cd (decide ((i : Int) < (xs.length : Int))) (fun hz1 => ?_) (fun hz1 => ?_)
  ·try simp only [boolS, isB_true, isB_false] at hz1
   refine PW.skip ?_
   show PW _ _ _ _ _
   refine PW.seq ?_
   refine PW.block ?_
   refine PW.rr [0, 3, 4] 0 (p := (0 ≤ (i : Int) ∧ (i : Int) < (xs.length : Int))) (by omega) ?_
   show PW _ _ _ _ _
   refine PW.rr [0, 3, 4] 0 trivial ?_
   refine BackR.of (s1 := { tab := [⟨0, [], sl' 1 (fun x => [I x]) xs⟩, ⟨3, [], I (if (xs.getD i default) > v then (xs.getD i default) else v)⟩, ⟨4, [], I (IntKind.i64.wrap ((i : Int) + 1))⟩], mem := [] }) (i + 1, if (xs.getD i default) > v then (xs.getD i default) else v) (by kernel_rfl) (by kernel_rfl) ?_ ?_ ?_
   ·dsimp only
    rw [wrap1 i (by omega)]
    exact Rem.refl _
   ·dsimp only
    exact ⟨by omega, by omega, by rw [maxTo, ← hinv.2.2]⟩
   ·dsimp only
    ((repeat' (first | intro _ | refine And.intro ?_ ?_)) <;> first | omega | trivial | assumption | (rename_i hgd; simp only [Bool.and_eq_true, decide_eq_true_eq, and_true] at hgd; omega))
  ·try simp only [boolS, isB_true, isB_false] at hz1
   refine PW.exit ?_
   show PW _ _ _ _ _
   refine PW.sr [2] 0 trivial ?_
   refine PW.ret ?_
   refine retQ_ret (d := I v) (ps := []) (by kernel_rfl) trivial ?_
   rw [hinv.2.2, show i = xs.length by omega]
end Go.Proofs.YtleflkgdbagmnaaDoor.Pl
