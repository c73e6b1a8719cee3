/- Chapter 10's laws: alive, GuardTells, GuardWindow, GuardShifts. -/
import Derived.Test.YtdpeopbflhhkiaaDoorGdOne
import Derived.Test.YtdpeopbflhhkiaaDoorCkLaw
namespace Go.Proofs.YtdpeopbflhhkiaaDoor.Pl
open Go.RowKit Go.Proofs.YtdpeopbflhhkiaaDoor.Sm Go.Proofs.YtdpeopbflhhkiaaDoor.Dp
set_option maxHeartbeats 4000000
set_option maxRecDepth 100000
set_option linter.unusedVariables false
set_option linter.unusedSimpArgs false
theorem gd1 : lateI ⟨true, 1000, []⟩ 230 0 1233 = 3 := by kernel_rfl
theorem gd2 : lateB ⟨true, 1000, []⟩ 230 1233 = true := by kernel_rfl
theorem gd3 : passB ⟨true, 1000, []⟩ 230 0 2 1233 = false := by kernel_rfl
theorem gd4 : passB ⟨true, 1000, []⟩ 230 0 3 1233 = true := by kernel_rfl
theorem gd5 : passB ⟨false, 0, []⟩ 0 0 0 5 = true := by kernel_rfl
theorem pass_win {s x p w d : Int} (hs : -549755813888 ≤ s ∧ s ≤ 549755813888) (hx : 0 ≤ x ∧ x ≤ 255) (hp : -32768 ≤ p ∧ p ≤ 32767) (hd : -50 ≤ d ∧ d ≤ 50) : passB ⟨true, s, []⟩ x p w (IntKind.i64.wrap (IntKind.i64.wrap (s + realI x p) + d)) = decide (-w ≤ d ∧ d ≤ w) := by
  have h1 := mul_abs (A := 255) (B := 32768) (by omega) (show -255 ≤ x ∧ x ≤ 255 by omega) (show -32768 ≤ p ∧ p ≤ 32768 by omega)
  have h2 := real_is (x := x) (p := p) (by omega) (by omega)
  have h3 : -9000000 ≤ realI x p ∧ realI x p ≤ 9000000 := by
    rw [h2]
    generalize x * p = z at h1 h2
    omega
  rw [Ev.wrap_i64 (x := s + realI x p) (by omega) (by omega), Ev.wrap_i64 (by omega) (by omega)]
  have hb : lateB ⟨true, s, []⟩ x (s + realI x p + d) = true := lateB_iff.2 ⟨rfl, by dsimp only; omega, by omega, by omega⟩
  have hi := (late_is p hb).1
  dsimp only at hi
  have hd2 : lateI ⟨true, s, []⟩ x p (s + realI x p + d) = d := by omega
  rw [passB, hb, hd2]
  simp
/-- how many of the first k ticks pass. -/
def cntW (V : Int) (k : Nat) : Int := max 0 (min ((k : Int) - 50 + V) (2 * V + 1))
theorem drumlinelaw10_alive_pc  : PC Tryd.prog [] 4 [] (· = D.v (.bool true)) := by
 refine PC.of (N := 28) Tryd.func4 rfl rfl (Nat.le_of_ble_eq_true rfl) ?_
 refine PW.sr [] 0 trivial ?_
 refine PW.sr [1] 1 trivial ?_
 refine PW.sg ?_
 refine PL.rw 1 [1, 6] 1 trivial ?_
 refine PL.gc (A := []) (fun _ => PC.argnil (ds := [D.r [D.v (.bool true), I 1000, D.v (.slice none 0 0)], I 230, I 0, I 1233]) 0 2 1 (fun i => [I (([] : List Int).getD i default)]) rfl rfl (guard_Late_pc (⟨true, 1000, []⟩ : Guard) 230 0 1233)) ?_
 refine PL.rw 5 [1, 2, 3] 1 trivial ?_
 refine PL.nl ?_
 refine PW.sg ?_
 refine PL.rw 7 [1, 15, 16] 1 trivial ?_
 refine PL.gc (A := [(15, true)]) (fun _ => PC.argnil (ds := [D.r [D.v (.bool true), I 1000, D.v (.slice none 0 0)], I 230, I 0, I 2, I 1233]) 0 2 1 (fun i => [I (([] : List Int).getD i default)]) rfl rfl (guard_Pass_pc (⟨true, 1000, []⟩ : Guard) 230 0 2 1233 (by unfold Is64 at *; omega))) ?_
 refine PL.rw 4 [20, 21] 1 trivial ?_
 refine PL.gc (A := [(20, true)]) (fun _ => PC.argnil (ds := [D.r [D.v (.bool true), I 1000, D.v (.slice none 0 0)], I 230, I 0, I 3, I 1233]) 0 2 1 (fun i => [I (([] : List Int).getD i default)]) rfl rfl (guard_Pass_pc (⟨true, 1000, []⟩ : Guard) 230 0 3 1233 (by unfold Is64 at *; omega))) ?_
 refine PL.rw 3 [24, 25] 1 trivial ?_
 refine PL.gc (A := [(24, true)]) (fun _ => PC.argnil (ds := [D.r [D.v (.bool false), I 0, D.v (.slice none 0 0)], I 0, I 0, I 0, I 5]) 0 2 1 (fun i => [I (([] : List Int).getD i default)]) rfl rfl (guard_Pass_pc (⟨false, 0, []⟩ : Guard) 0 0 0 5 (by unfold Is64 at *; omega))) ?_
 refine PL.rw 2 [0] 1 trivial ?_
 refine PL.nl ?_
 refine PW.ret ?_
 refine retQ_ret (d := D.v (.bool ((((((lateI (⟨true, 1000, []⟩ : Guard) 230 0 1233) == (3 : Int)) && (lateB (⟨true, 1000, []⟩ : Guard) 230 1233)) && (!(passB (⟨true, 1000, []⟩ : Guard) 230 0 2 1233))) && (passB (⟨true, 1000, []⟩ : Guard) 230 0 3 1233)) && (passB (⟨false, 0, []⟩ : Guard) 0 0 0 5)))) (ps := []) (by kernel_rfl) trivial ?_
 rfl
end Go.Proofs.YtdpeopbflhhkiaaDoor.Pl
