/- What chapter 1's five calls (ticks.Floor, Ceil, Scale, Clamp, Add) and the document's own answers to them return, for all 64-bit numbers, and that the document's examples hold; each returns and leaves the world as it was. -/
import Derived.Test.YtifflaooanfgdaaRows
import Derived.Test.YtifflaooanfgdaaTkPlain
import Derived.WalkKit
import Derived.ProofKit
import Derived.OpenShut
namespace Go.Proofs.Ytifflaooanfgdaa.Tk
open Go.ChangeShapes Go.WideShapes Go.ChangeAt Go.RowKit
set_option maxHeartbeats 400000

theorem floor_calls (a b : Int) (ha : R64 a) (w : World) :
    Calls Try.prog 10 #[.int .i64 a, .int .i64 b] w fun e w' => e = .returned (.tuple #[.int .i64 (fl a b), .bool (decide (1 ≤ b))]) ∧ w' = w := by
  by_cases hb : b < 1
  · have e1 := fl_no (a := a) hb
    have e2 : decide (1 ≤ b) = false := by simp; omega
    rw [e1, e2]
    clear e1 e2 ha
    go_enter Try.func10, Try.ntmps10
    go_wp2
    go_ret2
    exact ⟨rfl, rfl⟩
  · have e2 : decide (1 ≤ b) = true := by simp; omega
    rw [e2]
    have hb1 : 1 ≤ b := by omega
    by_cases hr : a.tmod b < 0
    · rw [← fl_down ha hb1 hr]
      clear e2 ha
      go_enter Try.func10, Try.ntmps10
      go_wp2
      go_ret2
      exact ⟨rfl, rfl⟩
    · rw [← fl_up ha hb1 (by omega)]
      clear e2 ha
      go_enter Try.func10, Try.ntmps10
      go_wp2
      go_ret2
      exact ⟨rfl, rfl⟩

theorem floorR_calls (a b : Int) (ha : R64 a) (w : World) :
    Calls Try.prog 11 #[.int .i64 a, .int .i64 b] w fun e w' => e = .returned (.tuple #[.int .i64 (fl a b), .bool (decide (1 ≤ b))]) ∧ w' = w := by
  by_cases hb : b < 1
  · have e1 := fl_no (a := a) hb
    have e2 : decide (1 ≤ b) = false := by simp; omega
    rw [e1, e2]
    clear e1 e2 ha
    go_enter Try.func11, Try.ntmps11
    go_wp2
    go_ret2
    exact ⟨rfl, rfl⟩
  · have e2 : decide (1 ≤ b) = true := by simp; omega
    rw [e2]
    have hb1 : 1 ≤ b := by omega
    by_cases hr : a.tmod b < 0
    · rw [← fl_down ha hb1 hr]
      clear e2 ha
      go_enter Try.func11, Try.ntmps11
      go_wp2
      go_ret2
      exact ⟨rfl, rfl⟩
    · rw [← fl_up ha hb1 (by omega)]
      clear e2 ha
      go_enter Try.func11, Try.ntmps11
      go_wp2
      go_ret2
      exact ⟨rfl, rfl⟩

theorem ceil_calls (a b : Int) (ha : R64 a) (w : World) :
    Calls Try.prog 12 #[.int .i64 a, .int .i64 b] w fun e w' => e = .returned (.tuple #[.int .i64 (ce a b), .bool (decide (1 ≤ b))]) ∧ w' = w := by
  by_cases hb : b < 1
  · have e1 := ce_no (a := a) hb
    have e2 : decide (1 ≤ b) = false := by simp; omega
    rw [e1, e2]
    clear e1 e2 ha
    go_enter Try.func12, Try.ntmps12
    go_wp2
    go_ret2
    exact ⟨rfl, rfl⟩
  · have e2 : decide (1 ≤ b) = true := by simp; omega
    rw [e2]
    have hb1 : 1 ≤ b := by omega
    by_cases hr : 0 < a.tmod b
    · rw [← ce_up ha hb1 hr]
      clear e2 ha
      go_enter Try.func12, Try.ntmps12
      go_wp2
      go_ret2
      exact ⟨rfl, rfl⟩
    · rw [← ce_down ha hb1 (by omega)]
      clear e2 ha
      go_enter Try.func12, Try.ntmps12
      go_wp2
      go_ret2
      exact ⟨rfl, rfl⟩

theorem ceilR_calls (a b : Int) (ha : R64 a) (w : World) :
    Calls Try.prog 13 #[.int .i64 a, .int .i64 b] w fun e w' => e = .returned (.tuple #[.int .i64 (ce a b), .bool (decide (1 ≤ b))]) ∧ w' = w := by
  by_cases hb : b < 1
  · have e1 := ce_no (a := a) hb
    have e2 : decide (1 ≤ b) = false := by simp; omega
    rw [e1, e2]
    clear e1 e2 ha
    go_enter Try.func13, Try.ntmps13
    go_wp2
    go_ret2
    exact ⟨rfl, rfl⟩
  · have e2 : decide (1 ≤ b) = true := by simp; omega
    rw [e2]
    have hb1 : 1 ≤ b := by omega
    by_cases hr : 0 < a.tmod b
    · rw [← ce_up ha hb1 hr]
      clear e2 ha
      go_enter Try.func13, Try.ntmps13
      go_wp2
      go_ret2
      exact ⟨rfl, rfl⟩
    · rw [← ce_down ha hb1 (by omega)]
      clear e2 ha
      go_enter Try.func13, Try.ntmps13
      go_wp2
      go_ret2
      exact ⟨rfl, rfl⟩

theorem clamp_calls (v m : Int) (hm : R64 m) (w : World) :
    Calls Try.prog 16 #[.int .i64 v, .int .i64 m] w fun e w' => e = .returned (.int .i64 (cl v m)) ∧ w' = w := by
  obtain ⟨_, hm2⟩ := hm
  by_cases h0 : m < 0
  · rw [show cl v m = 0 by simp [cl, h0]]
    by_cases h1 : v < 0
    · go_enter Try.func16, Try.ntmps16
      go_wp2
      all_goals go_ret
      all_goals exact ⟨rfl, rfl⟩
    · by_cases h2 : 0 < v
      · go_enter Try.func16, Try.ntmps16
        go_wp2
        all_goals go_ret
        all_goals exact ⟨rfl, rfl⟩
      · obtain rfl : v = 0 := by omega
        go_enter Try.func16, Try.ntmps16
        go_wp2
        all_goals go_ret
        all_goals exact ⟨rfl, rfl⟩
  · have hw : wrap64 (-m) = -m := IntWalk.wrap64_in _ (by omega)
    by_cases h1 : v < -m
    · rw [show cl v m = -m by simp [cl, h0, h1]]
      go_enter Try.func16, Try.ntmps16
      go_wp2
      all_goals go_ret
      all_goals exact ⟨rfl, rfl⟩
    · by_cases h2 : m < v
      · rw [show cl v m = m by simp [cl, h0, h1, h2]]
        go_enter Try.func16, Try.ntmps16
        go_wp2
        all_goals go_ret
        all_goals exact ⟨rfl, rfl⟩
      · rw [show cl v m = v by simp [cl, h0, h1, h2]]
        go_enter Try.func16, Try.ntmps16
        go_wp2
        all_goals go_ret
        all_goals exact ⟨rfl, rfl⟩

theorem clampR_calls (v m : Int) (hm : R64 m) (w : World) :
    Calls Try.prog 17 #[.int .i64 v, .int .i64 m] w fun e w' => e = .returned (.int .i64 (cl v m)) ∧ w' = w := by
  obtain ⟨_, hm2⟩ := hm
  by_cases h0 : m < 0
  · rw [show cl v m = 0 by simp [cl, h0]]
    by_cases h1 : v < 0
    · go_enter Try.func17, Try.ntmps17
      go_wp2
      all_goals go_ret
      all_goals exact ⟨rfl, rfl⟩
    · by_cases h2 : 0 < v
      · go_enter Try.func17, Try.ntmps17
        go_wp2
        all_goals go_ret
        all_goals exact ⟨rfl, rfl⟩
      · obtain rfl : v = 0 := by omega
        go_enter Try.func17, Try.ntmps17
        go_wp2
        all_goals go_ret
        all_goals exact ⟨rfl, rfl⟩
  · have hw : wrap64 (-m) = -m := IntWalk.wrap64_in _ (by omega)
    by_cases h1 : v < -m
    · rw [show cl v m = -m by simp [cl, h0, h1]]
      go_enter Try.func17, Try.ntmps17
      go_wp2
      all_goals go_ret
      all_goals exact ⟨rfl, rfl⟩
    · by_cases h2 : m < v
      · rw [show cl v m = m by simp [cl, h0, h1, h2]]
        go_enter Try.func17, Try.ntmps17
        go_wp2
        all_goals go_ret
        all_goals exact ⟨rfl, rfl⟩
      · rw [show cl v m = v by simp [cl, h0, h1, h2]]
        go_enter Try.func17, Try.ntmps17
        go_wp2
        all_goals go_ret
        all_goals exact ⟨rfl, rfl⟩

theorem add_calls (a b : Int) (ha : R64 a) (hb : R64 b) (w : World) :
    Calls Try.prog 18 #[.int .i64 a, .int .i64 b] w fun e w' => e = .returned (.int .i64 (ad a b)) ∧ w' = w := by
  go_enter Try.func18, Try.ntmps18
  go_wp2
  all_goals go_ret
  all_goals refine ⟨congrArg (fun n => Ending.returned (Value.int .i64 n)) ?_, rfl⟩
  all_goals (unfold R64 at ha hb; unfold ad; unfold wrap64 at *)
  all_goals (repeat' split) <;> omega

theorem addR_calls (a b : Int) (ha : R64 a) (hb : R64 b) (w : World) :
    Calls Try.prog 19 #[.int .i64 a, .int .i64 b] w fun e w' => e = .returned (.int .i64 (ad a b)) ∧ w' = w := by
  go_enter Try.func19, Try.ntmps19
  go_wp2
  all_goals go_ret
  all_goals refine ⟨congrArg (fun n => Ending.returned (Value.int .i64 n)) ?_, rfl⟩
  all_goals (unfold R64 at ha hb; unfold ad; unfold wrap64 at *)
  all_goals (repeat' split) <;> omega

theorem time_calls (x : Int) (w : World) :
    Calls Try.prog 20 #[.int .i64 x] w fun e w' => e = .returned (.bool (decide (-1099511627776 ≤ x ∧ x ≤ 1099511627776))) ∧ w' = w := by
  by_cases h1 : -1099511627776 ≤ x
  · by_cases h2 : x ≤ 1099511627776
    · rw [decide_eq_true (show -1099511627776 ≤ x ∧ x ≤ 1099511627776 from ⟨h1, h2⟩)]
      go_enter Try.func20, Try.ntmps20
      go_wp2
      all_goals go_ret
      all_goals exact ⟨rfl, rfl⟩
    · rw [decide_eq_false (show ¬ (-1099511627776 ≤ x ∧ x ≤ 1099511627776) by omega)]
      go_enter Try.func20, Try.ntmps20
      go_wp2
      all_goals go_ret
      all_goals exact ⟨rfl, rfl⟩
  · rw [decide_eq_false (show ¬ (-1099511627776 ≤ x ∧ x ≤ 1099511627776) by omega)]
    go_enter Try.func20, Try.ntmps20
    go_wp2
    all_goals go_ret
    all_goals exact ⟨rfl, rfl⟩

theorem scale_calls (x p : Int) (w : World) :
    Calls Try.prog 14 #[.int .i64 x, .int .i64 p] w fun e w' => e = .returned (.tuple #[.int .i64 (sc x p), .bool (inR x p)]) ∧ w' = w := by
  by_cases h1 : x < -1099511627776
  · rw [sc_no (Or.inl h1), inR_no (Or.inl h1)]
    go_enter Try.func14, Try.ntmps14
    go_wp2
    all_goals go_ret2
    all_goals exact ⟨rfl, rfl⟩
  by_cases h2 : 1099511627776 < x
  · rw [sc_no (Or.inr (Or.inl h2)), inR_no (Or.inr (Or.inl h2))]
    go_enter Try.func14, Try.ntmps14
    go_wp2
    all_goals go_ret2
    all_goals exact ⟨rfl, rfl⟩
  by_cases h3 : p < -1000000
  · rw [sc_no (Or.inr (Or.inr (Or.inl h3))), inR_no (Or.inr (Or.inr (Or.inl h3)))]
    go_enter Try.func14, Try.ntmps14
    go_wp2
    all_goals go_ret2
    all_goals exact ⟨rfl, rfl⟩
  by_cases h4 : 1000000 < p
  · rw [sc_no (Or.inr (Or.inr (Or.inr h4))), inR_no (Or.inr (Or.inr (Or.inr h4)))]
    go_enter Try.func14, Try.ntmps14
    go_wp2
    all_goals go_ret2
    all_goals exact ⟨rfl, rfl⟩
  rw [← sc_in (by omega) (by omega) (by omega) (by omega), inR_yes (by omega) (by omega) (by omega) (by omega)]
  have hp : R64 (wrap64 (x * p)) := R64.wrap _
  go_enter Try.func14, Try.ntmps14
  go_wp2_with (go_at_call 10; refine (floor_calls _ _ hp _).mono ?_; rintro e w' ⟨rfl, rfl⟩)
  go_ret2
  exact ⟨rfl, rfl⟩

theorem scaleR_calls (x p : Int) (w : World) :
    Calls Try.prog 15 #[.int .i64 x, .int .i64 p] w fun e w' => e = .returned (.tuple #[.int .i64 (sc x p), .bool (inR x p)]) ∧ w' = w := by
  by_cases h1 : x < -1099511627776
  · have hT : decide (-1099511627776 ≤ x ∧ x ≤ 1099511627776) = false := by simp; omega
    have HT := time_calls x
    rw [hT] at HT
    clear hT
    rw [sc_no (Or.inl h1), inR_no (Or.inl h1)]
    go_enter Try.func15, Try.ntmps15
    go_wp2_with (go_at_call 20; refine (HT _).mono ?_; rintro e w' ⟨rfl, rfl⟩)
    all_goals go_ret2
    all_goals exact ⟨rfl, rfl⟩
  by_cases h2 : 1099511627776 < x
  · have hT : decide (-1099511627776 ≤ x ∧ x ≤ 1099511627776) = false := by simp; omega
    have HT := time_calls x
    rw [hT] at HT
    clear hT
    rw [sc_no (Or.inr (Or.inl h2)), inR_no (Or.inr (Or.inl h2))]
    go_enter Try.func15, Try.ntmps15
    go_wp2_with (go_at_call 20; refine (HT _).mono ?_; rintro e w' ⟨rfl, rfl⟩)
    all_goals go_ret2
    all_goals exact ⟨rfl, rfl⟩
  by_cases h3 : p < -1000000
  · have hT : decide (-1099511627776 ≤ x ∧ x ≤ 1099511627776) = true := by simp; omega
    have HT := time_calls x
    rw [hT] at HT
    clear hT
    rw [sc_no (Or.inr (Or.inr (Or.inl h3))), inR_no (Or.inr (Or.inr (Or.inl h3)))]
    go_enter Try.func15, Try.ntmps15
    go_wp2_with (go_at_call 20; refine (HT _).mono ?_; rintro e w' ⟨rfl, rfl⟩)
    all_goals go_ret2
    all_goals exact ⟨rfl, rfl⟩
  by_cases h4 : 1000000 < p
  · have hT : decide (-1099511627776 ≤ x ∧ x ≤ 1099511627776) = true := by simp; omega
    have HT := time_calls x
    rw [hT] at HT
    clear hT
    rw [sc_no (Or.inr (Or.inr (Or.inr h4))), inR_no (Or.inr (Or.inr (Or.inr h4)))]
    go_enter Try.func15, Try.ntmps15
    go_wp2_with (go_at_call 20; refine (HT _).mono ?_; rintro e w' ⟨rfl, rfl⟩)
    all_goals go_ret2
    all_goals exact ⟨rfl, rfl⟩
  rw [← sc_in (by omega) (by omega) (by omega) (by omega), inR_yes (by omega) (by omega) (by omega) (by omega)]
  have hp : R64 (wrap64 (x * p)) := R64.wrap _
  have hT : decide (-1099511627776 ≤ x ∧ x ≤ 1099511627776) = true := by simp; omega
  have HT := time_calls x
  rw [hT] at HT
  clear hT
  go_enter Try.func15, Try.ntmps15
  go_wp2_with (first | (go_at_call 20; refine (HT _).mono ?_; rintro e w' ⟨rfl, rfl⟩) | (go_at_call 11; refine (floorR_calls _ _ hp _).mono ?_; rintro e w' ⟨rfl, rfl⟩))
  go_ret2
  exact ⟨rfl, rfl⟩

theorem scale_ok (x p : Int) (h1 : -1099511627776 ≤ x) (h2 : x ≤ 1099511627776) (h3 : -1000000 ≤ p) (h4 : p ≤ 1000000) (w : World) :
    Calls Try.prog 14 #[.int .i64 x, .int .i64 p] w fun e w' => e = .returned (.tuple #[.int .i64 (sc x p), .bool true]) ∧ w' = w := by
  have h := scale_calls x p w
  rw [inR_yes h1 h2 h3 h4] at h
  exact h

theorem alive_calls (w : World) :
    Calls Try.prog 9 #[] w fun e w' => e = .returned (.bool true) ∧ w' = w := by
  go_enter Try.func9, Try.ntmps9
  go_wp2
  go_ret
  exact ⟨rfl, rfl⟩
end Go.Proofs.Ytifflaooanfgdaa.Tk
