/- Package plan's number. -/
import Derived.Test.YtleflkgdbagmnaaGreatDoorPlErr
namespace Go.Proofs.YtleflkgdbagmnaaGreatDoor.Pl
open Go.RowKit Go.Proofs.YtleflkgdbagmnaaGreatDoor.Sm Go.Proofs.YtleflkgdbagmnaaGreatDoor.Dp
set_option maxHeartbeats 4000000
set_option maxRecDepth 100000
set_option linter.unusedVariables false
set_option linter.unusedSimpArgs false
/-- the errors' variables point to variables of their own. -/
def Apart (e : Nat → Addr) : Prop := ∀ j k, j < 7 → k < 7 → e j = e k → j = k
theorem kOf_lt (n : Int) : kOf n < 7 := by unfold kOf; grind
theorem plan_number_nil_pc (e : Nat → Addr) : PC Tryz.prog (errG2 e) 67 [D.v (.nilIface)] (· = I 0) := by
  refine PC.of (N := 30) Tryz.func67 rfl rfl (Nat.le_of_ble_eq_true rfl) ?_
  refine PW.seq ?_
  refine PW.region ?_
  refine PL.rowK 1 [0] 0 (s' := { tab := [⟨0, [], D.v (.nilIface)⟩], mem := [], gl := (errG2 e) }) (p := True) (by kernel_rfl) (by trivial) ?_
  refine PL.nil ?_
  show PW _ _ _ _ _
  refine PW.seq ?_
  refine PW.block ?_
  refine PW.seq ?_
  refine PW.region ?_
  refine PL.rowK 3 [0, 3] 0 (s' := { tab := [⟨0, [], D.v (.nilIface)⟩, ⟨3, [], D.v (.bool true)⟩], mem := [], gl := (errG2 e) }) (p := True) (by kernel_rfl) (by trivial) ?_
  refine PL.nil ?_
  show PW _ _ _ _ _
  refine PW.cond (z := true) (by kernel_rfl) (fun hz0 => ?_) (fun hz0 => by cases hz0)
  refine PW.seq ?_
  refine PW.region ?_
  refine PL.rowK 1 [2] 0 (s' := { tab := [⟨2, [], I 0⟩], mem := [], gl := (errG2 e) }) (p := True) (by kernel_rfl) (by trivial) ?_
  refine PL.nil ?_
  show PW _ _ _ _ _
  refine PW.ret ?_
  refine retQ_ret (d := I 0) (ps := []) (by kernel_rfl) trivial ?_
  rfl
theorem plan_number_fault_pc (e : Nat → Addr) (hA : Apart e) (n at_ : Int) (hn : 7 ≤ n ∧ n ≤ 13) (hk : kOf n < 7) : PC Tryz.prog (errG2 e) 67 [D.i 90 (D.q [D.v (.iface 152 (.pointer (some (e (kOf n))))), I at_] 0)] (· = I n) := by
  refine PC.of (N := 30) Tryz.func67 rfl rfl (Nat.le_of_ble_eq_true rfl) ?_
  refine PW.seq ?_
  refine PW.region ?_
  refine PL.rowK 1 [0] 0 (s' := { tab := [⟨0, [], D.i 90 (D.q [D.v (.iface 152 (.pointer (some (e (kOf n))))), I at_] 0)⟩], mem := [], gl := (errG2 e) }) (p := True) (by kernel_rfl) (by trivial) ?_
  refine PL.nil ?_
  show PW _ _ _ _ _
  refine PW.seq ?_
  refine PW.block ?_
  refine PW.seq ?_
  refine PW.region ?_
  refine PL.rowK 3 [0, 3] 0 (s' := { tab := [⟨0, [], D.i 90 (D.q [D.v (.iface 152 (.pointer (some (e (kOf n))))), I at_] 0)⟩, ⟨3, [], D.v (.bool false)⟩], mem := [], gl := (errG2 e) }) (p := True) (by kernel_rfl) (by trivial) ?_
  refine PL.nil ?_
  show PW _ _ _ _ _
  refine PW.cond (z := false) (by kernel_rfl) (fun hz0 => by cases hz0) (fun hz0 => ?_)
  refine PW.seq ?_
  refine PW.region ?_
  refine PL.rowK 2 [0, 7, 8] 0 (s' := { tab := [⟨0, [], D.i 90 (D.q [D.v (.iface 152 (.pointer (some (e (kOf n))))), I at_] 0)⟩, ⟨7, [], D.i 90 (D.q [D.v (.iface 152 (.pointer (some (e (kOf n))))), I at_] 0)⟩, ⟨8, [], D.v (.iface 152 (.pointer (some (e 0))))⟩], mem := [], gl := (errG2 e) }) (p := True) (by kernel_rfl) (by trivial) ?_
  refine PL.gcall (A := []) (f := 60) (ds := [D.i 90 (D.q [D.v (.iface 152 (.pointer (some (e (kOf n))))), I at_] 0), D.v (.iface 152 (.pointer (some (e 0))))]) (by kernel_rfl) (by kernel_rfl) (by kernel_rfl) (by kernel_rfl) (by kernel_rfl) rfl (D.v (.bool (decide (e (kOf n) = e 0)))) (fun _ => errors_Is_pc e (kOf n) 0 at_ hk (by decide)) ?_
  refine PL.rowK 1 [0, 6] 0 (s' := { tab := [⟨0, [], D.i 90 (D.q [D.v (.iface 152 (.pointer (some (e (kOf n))))), I at_] 0)⟩, ⟨6, [], D.v (.bool (decide (e (kOf n) = e 0)))⟩], mem := [], gl := (errG2 e) }) (p := True) (by kernel_rfl) (by trivial) ?_
  refine PL.nil ?_
  show PW _ _ _ _ _
  refine PW.cond (z := (decide (e (kOf n) = e 0))) (by kernel_rfl) (fun hz1 => ?_) (fun hz1 => ?_)
  · skip
    try simp only [boolS, isB_true, isB_false] at hz1
    refine PW.seq ?_
    refine PW.region ?_
    refine PL.rowK 1 [2] 0 (s' := { tab := [⟨2, [], I 7⟩], mem := [], gl := (errG2 e) }) (p := True) (by kernel_rfl) (by trivial) ?_
    refine PL.nil ?_
    show PW _ _ _ _ _
    refine PW.ret ?_
    refine retQ_ret (d := I 7) (ps := []) (by kernel_rfl) trivial ?_
    have hk0 : kOf n = 0 := hA _ _ hk (by decide) (by assumption)
    have hn0 : n = 7 := by unfold kOf at hk0; grind
    rw [hn0]
  · skip
    try simp only [boolS, isB_true, isB_false] at hz1
    refine PW.seq ?_
    refine PW.region ?_
    refine PL.rowK 2 [0, 11, 12] 0 (s' := { tab := [⟨0, [], D.i 90 (D.q [D.v (.iface 152 (.pointer (some (e (kOf n))))), I at_] 0)⟩, ⟨11, [], D.i 90 (D.q [D.v (.iface 152 (.pointer (some (e (kOf n))))), I at_] 0)⟩, ⟨12, [], D.v (.iface 152 (.pointer (some (e 1))))⟩], mem := [], gl := (errG2 e) }) (p := True) (by kernel_rfl) (by trivial) ?_
    refine PL.gcall (A := []) (f := 60) (ds := [D.i 90 (D.q [D.v (.iface 152 (.pointer (some (e (kOf n))))), I at_] 0), D.v (.iface 152 (.pointer (some (e 1))))]) (by kernel_rfl) (by kernel_rfl) (by kernel_rfl) (by kernel_rfl) (by kernel_rfl) rfl (D.v (.bool (decide (e (kOf n) = e 1)))) (fun _ => errors_Is_pc e (kOf n) 1 at_ hk (by decide)) ?_
    refine PL.rowK 1 [0, 10] 0 (s' := { tab := [⟨0, [], D.i 90 (D.q [D.v (.iface 152 (.pointer (some (e (kOf n))))), I at_] 0)⟩, ⟨10, [], D.v (.bool (decide (e (kOf n) = e 1)))⟩], mem := [], gl := (errG2 e) }) (p := True) (by kernel_rfl) (by trivial) ?_
    refine PL.nil ?_
    show PW _ _ _ _ _
    refine PW.cond (z := (decide (e (kOf n) = e 1))) (by kernel_rfl) (fun hz2 => ?_) (fun hz2 => ?_)
    · skip
      try simp only [boolS, isB_true, isB_false] at hz2
      refine PW.seq ?_
      refine PW.region ?_
      refine PL.rowK 1 [2] 0 (s' := { tab := [⟨2, [], I 8⟩], mem := [], gl := (errG2 e) }) (p := True) (by kernel_rfl) (by trivial) ?_
      refine PL.nil ?_
      show PW _ _ _ _ _
      refine PW.ret ?_
      refine retQ_ret (d := I 8) (ps := []) (by kernel_rfl) trivial ?_
      have hk0 : kOf n = 1 := hA _ _ hk (by decide) (by assumption)
      have hn0 : n = 8 := by unfold kOf at hk0; grind
      rw [hn0]
    · skip
      try simp only [boolS, isB_true, isB_false] at hz2
      refine PW.seq ?_
      refine PW.region ?_
      refine PL.rowK 2 [0, 15, 16] 0 (s' := { tab := [⟨0, [], D.i 90 (D.q [D.v (.iface 152 (.pointer (some (e (kOf n))))), I at_] 0)⟩, ⟨15, [], D.i 90 (D.q [D.v (.iface 152 (.pointer (some (e (kOf n))))), I at_] 0)⟩, ⟨16, [], D.v (.iface 152 (.pointer (some (e 2))))⟩], mem := [], gl := (errG2 e) }) (p := True) (by kernel_rfl) (by trivial) ?_
      refine PL.gcall (A := []) (f := 60) (ds := [D.i 90 (D.q [D.v (.iface 152 (.pointer (some (e (kOf n))))), I at_] 0), D.v (.iface 152 (.pointer (some (e 2))))]) (by kernel_rfl) (by kernel_rfl) (by kernel_rfl) (by kernel_rfl) (by kernel_rfl) rfl (D.v (.bool (decide (e (kOf n) = e 2)))) (fun _ => errors_Is_pc e (kOf n) 2 at_ hk (by decide)) ?_
      refine PL.rowK 1 [0, 14] 0 (s' := { tab := [⟨0, [], D.i 90 (D.q [D.v (.iface 152 (.pointer (some (e (kOf n))))), I at_] 0)⟩, ⟨14, [], D.v (.bool (decide (e (kOf n) = e 2)))⟩], mem := [], gl := (errG2 e) }) (p := True) (by kernel_rfl) (by trivial) ?_
      refine PL.nil ?_
      show PW _ _ _ _ _
      refine PW.cond (z := (decide (e (kOf n) = e 2))) (by kernel_rfl) (fun hz3 => ?_) (fun hz3 => ?_)
      · skip
        try simp only [boolS, isB_true, isB_false] at hz3
        refine PW.seq ?_
        refine PW.region ?_
        refine PL.rowK 1 [2] 0 (s' := { tab := [⟨2, [], I 9⟩], mem := [], gl := (errG2 e) }) (p := True) (by kernel_rfl) (by trivial) ?_
        refine PL.nil ?_
        show PW _ _ _ _ _
        refine PW.ret ?_
        refine retQ_ret (d := I 9) (ps := []) (by kernel_rfl) trivial ?_
        have hk0 : kOf n = 2 := hA _ _ hk (by decide) (by assumption)
        have hn0 : n = 9 := by unfold kOf at hk0; grind
        rw [hn0]
      · skip
        try simp only [boolS, isB_true, isB_false] at hz3
        refine PW.seq ?_
        refine PW.region ?_
        refine PL.rowK 2 [0, 19, 20] 0 (s' := { tab := [⟨0, [], D.i 90 (D.q [D.v (.iface 152 (.pointer (some (e (kOf n))))), I at_] 0)⟩, ⟨19, [], D.i 90 (D.q [D.v (.iface 152 (.pointer (some (e (kOf n))))), I at_] 0)⟩, ⟨20, [], D.v (.iface 152 (.pointer (some (e 4))))⟩], mem := [], gl := (errG2 e) }) (p := True) (by kernel_rfl) (by trivial) ?_
        refine PL.gcall (A := []) (f := 60) (ds := [D.i 90 (D.q [D.v (.iface 152 (.pointer (some (e (kOf n))))), I at_] 0), D.v (.iface 152 (.pointer (some (e 4))))]) (by kernel_rfl) (by kernel_rfl) (by kernel_rfl) (by kernel_rfl) (by kernel_rfl) rfl (D.v (.bool (decide (e (kOf n) = e 4)))) (fun _ => errors_Is_pc e (kOf n) 4 at_ hk (by decide)) ?_
        refine PL.rowK 1 [0, 18] 0 (s' := { tab := [⟨0, [], D.i 90 (D.q [D.v (.iface 152 (.pointer (some (e (kOf n))))), I at_] 0)⟩, ⟨18, [], D.v (.bool (decide (e (kOf n) = e 4)))⟩], mem := [], gl := (errG2 e) }) (p := True) (by kernel_rfl) (by trivial) ?_
        refine PL.nil ?_
        show PW _ _ _ _ _
        refine PW.cond (z := (decide (e (kOf n) = e 4))) (by kernel_rfl) (fun hz4 => ?_) (fun hz4 => ?_)
        · skip
          try simp only [boolS, isB_true, isB_false] at hz4
          refine PW.seq ?_
          refine PW.region ?_
          refine PL.rowK 1 [2] 0 (s' := { tab := [⟨2, [], I 10⟩], mem := [], gl := (errG2 e) }) (p := True) (by kernel_rfl) (by trivial) ?_
          refine PL.nil ?_
          show PW _ _ _ _ _
          refine PW.ret ?_
          refine retQ_ret (d := I 10) (ps := []) (by kernel_rfl) trivial ?_
          have hk0 : kOf n = 4 := hA _ _ hk (by decide) (by assumption)
          have hn0 : n = 10 := by unfold kOf at hk0; grind
          rw [hn0]
        · skip
          try simp only [boolS, isB_true, isB_false] at hz4
          refine PW.seq ?_
          refine PW.region ?_
          refine PL.rowK 2 [0, 23, 24] 0 (s' := { tab := [⟨0, [], D.i 90 (D.q [D.v (.iface 152 (.pointer (some (e (kOf n))))), I at_] 0)⟩, ⟨23, [], D.i 90 (D.q [D.v (.iface 152 (.pointer (some (e (kOf n))))), I at_] 0)⟩, ⟨24, [], D.v (.iface 152 (.pointer (some (e 5))))⟩], mem := [], gl := (errG2 e) }) (p := True) (by kernel_rfl) (by trivial) ?_
          refine PL.gcall (A := []) (f := 60) (ds := [D.i 90 (D.q [D.v (.iface 152 (.pointer (some (e (kOf n))))), I at_] 0), D.v (.iface 152 (.pointer (some (e 5))))]) (by kernel_rfl) (by kernel_rfl) (by kernel_rfl) (by kernel_rfl) (by kernel_rfl) rfl (D.v (.bool (decide (e (kOf n) = e 5)))) (fun _ => errors_Is_pc e (kOf n) 5 at_ hk (by decide)) ?_
          refine PL.rowK 1 [0, 22] 0 (s' := { tab := [⟨0, [], D.i 90 (D.q [D.v (.iface 152 (.pointer (some (e (kOf n))))), I at_] 0)⟩, ⟨22, [], D.v (.bool (decide (e (kOf n) = e 5)))⟩], mem := [], gl := (errG2 e) }) (p := True) (by kernel_rfl) (by trivial) ?_
          refine PL.nil ?_
          show PW _ _ _ _ _
          refine PW.cond (z := (decide (e (kOf n) = e 5))) (by kernel_rfl) (fun hz5 => ?_) (fun hz5 => ?_)
          · skip
            try simp only [boolS, isB_true, isB_false] at hz5
            refine PW.seq ?_
            refine PW.region ?_
            refine PL.rowK 1 [2] 0 (s' := { tab := [⟨2, [], I 11⟩], mem := [], gl := (errG2 e) }) (p := True) (by kernel_rfl) (by trivial) ?_
            refine PL.nil ?_
            show PW _ _ _ _ _
            refine PW.ret ?_
            refine retQ_ret (d := I 11) (ps := []) (by kernel_rfl) trivial ?_
            have hk0 : kOf n = 5 := hA _ _ hk (by decide) (by assumption)
            have hn0 : n = 11 := by unfold kOf at hk0; grind
            rw [hn0]
          · skip
            try simp only [boolS, isB_true, isB_false] at hz5
            refine PW.seq ?_
            refine PW.region ?_
            refine PL.rowK 2 [27, 28] 0 (s' := { tab := [⟨27, [], D.i 90 (D.q [D.v (.iface 152 (.pointer (some (e (kOf n))))), I at_] 0)⟩, ⟨28, [], D.v (.iface 152 (.pointer (some (e 6))))⟩], mem := [], gl := (errG2 e) }) (p := True) (by kernel_rfl) (by trivial) ?_
            refine PL.gcall (A := []) (f := 60) (ds := [D.i 90 (D.q [D.v (.iface 152 (.pointer (some (e (kOf n))))), I at_] 0), D.v (.iface 152 (.pointer (some (e 6))))]) (by kernel_rfl) (by kernel_rfl) (by kernel_rfl) (by kernel_rfl) (by kernel_rfl) rfl (D.v (.bool (decide (e (kOf n) = e 6)))) (fun _ => errors_Is_pc e (kOf n) 6 at_ hk (by decide)) ?_
            refine PL.rowK 1 [26] 0 (s' := { tab := [⟨26, [], D.v (.bool (decide (e (kOf n) = e 6)))⟩], mem := [], gl := (errG2 e) }) (p := True) (by kernel_rfl) (by trivial) ?_
            refine PL.nil ?_
            show PW _ _ _ _ _
            refine PW.cond (z := (decide (e (kOf n) = e 6))) (by kernel_rfl) (fun hz6 => ?_) (fun hz6 => ?_)
            · skip
              try simp only [boolS, isB_true, isB_false] at hz6
              refine PW.seq ?_
              refine PW.region ?_
              refine PL.rowK 1 [2] 0 (s' := { tab := [⟨2, [], I 12⟩], mem := [], gl := (errG2 e) }) (p := True) (by kernel_rfl) (by trivial) ?_
              refine PL.nil ?_
              show PW _ _ _ _ _
              refine PW.ret ?_
              refine retQ_ret (d := I 12) (ps := []) (by kernel_rfl) trivial ?_
              have hk0 : kOf n = 6 := hA _ _ hk (by decide) (by assumption)
              have hn0 : n = 12 := by unfold kOf at hk0; grind
              rw [hn0]
            · skip
              try simp only [boolS, isB_true, isB_false] at hz6
              refine PW.skip ?_
              show PW _ _ _ _ _
              refine PW.seq ?_
              refine PW.region ?_
              refine PL.rowK 1 [2] 0 (s' := { tab := [⟨2, [], I 13⟩], mem := [], gl := (errG2 e) }) (p := True) (by kernel_rfl) (by trivial) ?_
              refine PL.nil ?_
              show PW _ _ _ _ _
              refine PW.ret ?_
              refine retQ_ret (d := I 13) (ps := []) (by kernel_rfl) trivial ?_
              have hk3 : kOf n = 0 ∨ kOf n = 1 ∨ kOf n = 2 ∨ kOf n = 3 ∨ kOf n = 4 ∨ kOf n = 5 ∨ kOf n = 6 := by omega
              have hn0 : n = 13 := by
                unfold kOf at *
                grind
              rw [hn0]
end Go.Proofs.YtleflkgdbagmnaaGreatDoor.Pl
