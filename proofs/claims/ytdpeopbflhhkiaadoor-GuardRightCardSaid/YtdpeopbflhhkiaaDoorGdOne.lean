/- Chapter 10: package guard and the document's own Late and Pass. -/
import Derived.Test.YtdpeopbflhhkiaaDoorCkOne
import Derived.Test.YtdpeopbflhhkiaaDoorGdArg
import Derived.Test.YtdpeopbflhhkiaaDoorDpNil
namespace Go.Proofs.YtdpeopbflhhkiaaDoor.Pl
open Go.RowKit Go.Proofs.YtdpeopbflhhkiaaDoor.Sm Go.Proofs.YtdpeopbflhhkiaaDoor.Dp
set_option maxHeartbeats 4000000
set_option maxRecDepth 100000
set_option linter.unusedVariables false
set_option linter.unusedSimpArgs false
/-- how late: asked, the answer. -/
def lateB (x : Guard) (at_ arr : Int) : Bool := x.on && timeB x.start && timeB at_ && timeB arr
def lateI (x : Guard) (at_ p arr : Int) : Int := if lateB x at_ arr = true then IntKind.i64.wrap (IntKind.i64.wrap (arr - x.start) - realI at_ p) else 0
def passB (x : Guard) (at_ p w arr : Int) : Bool := !x.on || (lateB x at_ arr && decide (-w ≤ lateI x at_ p arr) && decide (lateI x at_ p arr ≤ w))
theorem real_in (x p : Int) (hx : -1099511627776 ≤ x ∧ x ≤ 1099511627776) : -2199023255552 ≤ realI x p ∧ realI x p ≤ 2199023255552 := by
  have := scale_in x p
  rw [realI, Ev.wrap_i64 (by omega) (by omega)]
  omega
theorem lateB_iff {x : Guard} {at_ arr : Int} : lateB x at_ arr = true ↔ x.on = true ∧ (-1099511627776 ≤ x.start ∧ x.start ≤ 1099511627776) ∧ (-1099511627776 ≤ at_ ∧ at_ ≤ 1099511627776) ∧ (-1099511627776 ≤ arr ∧ arr ≤ 1099511627776) := by
  simp only [lateB, Bool.and_eq_true, timeB_iff, and_assoc]
theorem late_is {x : Guard} {at_ arr : Int} (p : Int) (h : lateB x at_ arr = true) : lateI x at_ p arr = arr - x.start - realI at_ p ∧ -8796093022208 ≤ lateI x at_ p arr ∧ lateI x at_ p arr ≤ 8796093022208 := by
  have hb := lateB_iff.1 h
  have hr := real_in at_ p hb.2.2.1
  rw [lateI, if_pos h, Ev.wrap_i64 (x := arr - x.start) (by omega) (by omega), Ev.wrap_i64 (by omega) (by omega)]
  omega
theorem late_no {x : Guard} {at_ arr : Int} (h : ¬ (x.on = true ∧ (-1099511627776 ≤ x.start ∧ x.start ≤ 1099511627776) ∧ (-1099511627776 ≤ at_ ∧ at_ ≤ 1099511627776) ∧ (-1099511627776 ≤ arr ∧ arr ≤ 1099511627776))) : lateB x at_ arr = false := by
  rw [← lateB_iff] at h
  simpa using h
theorem pass_code {x : Guard} {at_ p w arr : Int} (hw : Is64 w) (ho : x.on = true) : ((lateB x at_ arr && decide (lateI x at_ p arr ≥ IntKind.i64.wrap (0 - w))) && decide (lateI x at_ p arr ≤ w)) = passB x at_ p w arr := by
  unfold Is64 at hw
  rw [passB, ho]
  by_cases h : lateB x at_ arr = true
  · have hi := (late_is p h).2
    rw [h]
    by_cases hm : w = -9223372036854775808
    · subst hm
      rw [show IntKind.i64.wrap (0 - -9223372036854775808) = -9223372036854775808 by kernel_rfl]
      simp only [Bool.not_true, Bool.false_or, Bool.true_and]
      rw [decide_eq_false (p := lateI x at_ p arr ≤ -9223372036854775808) (by omega)]
      simp
    · rw [Ev.wrap_i64 (by omega) (by omega), Int.zero_sub]
      simp
  · rw [Bool.not_eq_true] at h
    rw [h]
    simp
theorem pass_doc {x : Guard} {at_ p w arr : Int} (hw : Is64 w) (ho : x.on = true) : (((lateB x at_ arr && decide (w ≥ (0 : Int))) && decide (lateI x at_ p arr ≤ w)) && decide (lateI x at_ p arr ≥ IntKind.i64.wrap (0 - w))) = passB x at_ p w arr := by
  rw [← pass_code hw ho]
  unfold Is64 at hw
  by_cases h : lateB x at_ arr = true
  · have hi := (late_is p h).2
    rw [h]
    by_cases h0 : 0 ≤ w
    · rw [decide_eq_true (show w ≥ 0 from h0)]
      simp [Bool.and_comm]
    · rw [decide_eq_false (show ¬ w ≥ 0 from h0)]
      by_cases hm : w = -9223372036854775808
      · subst hm
        rw [decide_eq_false (p := lateI x at_ p arr ≤ -9223372036854775808) (by omega)]
        simp
      · rw [Ev.wrap_i64 (by omega) (by omega)]
        simp
        omega
  · rw [Bool.not_eq_true] at h
    rw [h]
    simp
theorem guard_isTime_pc (x : Int) : PC Tryd.prog [] 15 [I x] (· = D.v (.bool (timeB x))) := by
 refine PC.of (N := 9) Tryd.func15 rfl rfl (Nat.le_of_ble_eq_true rfl) ?_
 refine PW.sr [0] 0 trivial ?_
 refine PW.sr [2] 0 trivial ?_
 refine PW.ret ?_
 refine retQ_ret (d := D.v (.bool ((decide (x ≥ ((-1099511627776) : Int))) && (decide (x ≤ (1099511627776 : Int)))))) (ps := []) (by kernel_rfl) trivial ?_
 rfl
theorem guard_Late_pc (x : Guard) (a p t : Int) : PC Tryd.prog [] 9 [D.r (Guard.d x), I a, I p, I t] (· = D.t [I (lateI x a p t), D.v (.bool (lateB x a t))]) := by
 refine PC.of (N := 37) Tryd.func9 rfl rfl (Nat.le_of_ble_eq_true rfl) ?_
 refine PW.sr [1, 2, 3, 4] 1 trivial ?_
 refine PW.seq ?_
 refine PW.sg ?_
 refine PL.rw 6 [1, 2, 3, 4, 13, 15] 1 trivial ?_
 refine PL.gc (A := [(13, false)]) (fun _ => guard_isTime_pc x.start) ?_
 refine PL.rw 4 [1, 2, 3, 4, 19, 20] 1 trivial ?_
 refine PL.gc (A := [(19, false)]) (fun _ => guard_isTime_pc a) ?_
 refine PL.rw 4 [1, 2, 3, 4, 24, 25] 1 trivial ?_
 refine PL.gc (A := [(24, false)]) (fun _ => guard_isTime_pc t) ?_
 refine PL.rw 2 [1, 2, 3, 4, 28] 1 trivial ?_
 refine PL.nl ?_
 refine PW.cd ((((!x.on) || (!(timeB x.start))) || (!(timeB a))) || (!(timeB t))) (fun hz0 => ?_) (fun hz0 => ?_)
 ·try simp only [boolS, timeB_iff, timeB_not] at hz0
  refine PW.sr [8, 9] 1 trivial ?_
  refine PW.ret ?_
  refine retQ_ret (d := D.t [I 0, D.v (.bool false)]) (ps := []) (by kernel_rfl) trivial ?_
  have hn := late_no (x := x) (at_ := a) (arr := t) (by intro h; rw [h.1] at hz0; simp only [Bool.true_eq_false, Bool.false_eq_true, false_or] at hz0; omega)
  rw [lateI, hn, if_neg (by simp)]
 ·try simp only [boolS, timeB_iff, timeB_not] at hz0
  refine PW.skip ?_
  show PW _ _ _ _ _
  refine PW.seq ?_
  refine PW.open [] (by kernel_rfl) ?_
  refine PO.tk [0, 1, 2, 3, 4, 5] 10 [32, 33, 34] 4 trivial (fun _ _ h => h) ?_
  refine PO.one (n := 3) 6 (by kernel_rfl) ?_
  refine PO1.gc _ (A := []) (fun _ => clock_Real_pc a p) ?_ rfl
  refine PO.tk [7, 8, 9] 3 [8, 9] 0 trivial (fun _ _ h => h) ?_
  refine PO.done (by kernel_rfl) ?_
  show PW _ _ _ _ _
  refine PW.ret ?_
  refine retQ_ret (d := D.t [I (IntKind.i64.wrap ((IntKind.i64.wrap (t - x.start)) - (realI a p))), D.v (.bool true)]) (ps := []) (by kernel_rfl) trivial ?_
  have hy := lateB_iff.2 (show x.on = true ∧ (-1099511627776 ≤ x.start ∧ x.start ≤ 1099511627776) ∧ (-1099511627776 ≤ a ∧ a ≤ 1099511627776) ∧ (-1099511627776 ≤ t ∧ t ≤ 1099511627776) from ⟨hz0.1.1.1, hz0.1.1.2, hz0.1.2, hz0.2⟩)
  rw [lateI, hy, if_pos rfl]
theorem guard_Pass_pc (x : Guard) (a p w t : Int) (hw : Is64 w) : PC Tryd.prog [] 7 [D.r (Guard.d x), I a, I p, I w, I t] (· = D.v (.bool (passB x a p w t))) := by
 refine PC.of (N := 36) Tryd.func7 rfl rfl (Nat.le_of_ble_eq_true rfl) ?_
 refine PW.sr [1, 2, 3, 4, 5] 1 trivial ?_
 refine PW.seq ?_
 refine PW.sr [1, 2, 3, 4, 5, 15] 1 trivial ?_
 refine PW.cd (!x.on) (fun hz0 => ?_) (fun hz0 => ?_)
 ·try simp only [boolS] at hz0
  refine PW.sr [10] 1 trivial ?_
  refine PW.ret ?_
  refine retQ_ret (d := D.v (.bool true)) (ps := []) (by kernel_rfl) trivial ?_
  rw [passB, hz0]
  rfl
 ·try simp only [boolS] at hz0
  refine PW.skip ?_
  show PW _ _ _ _ _
  refine PW.sg ?_
  refine PL.rw 4 [3, 17, 18, 19, 20] 1 trivial ?_
  refine PL.gc (A := []) (fun _ => guard_Late_pc x a p t) ?_
  refine PL.rw 5 [3, 11, 12] 1 trivial ?_
  refine PL.nl ?_
  refine PW.sr [10] 1 trivial ?_
  refine PW.ret ?_
  refine retQ_ret (d := D.v (.bool (((lateB x a t) && (decide ((lateI x a p t) ≥ (IntKind.i64.wrap (0 - w))))) && (decide ((lateI x a p t) ≤ w))))) (ps := []) (by kernel_rfl) trivial ?_
  rw [← pass_code hw hz0]
end Go.Proofs.YtdpeopbflhhkiaaDoor.Pl
