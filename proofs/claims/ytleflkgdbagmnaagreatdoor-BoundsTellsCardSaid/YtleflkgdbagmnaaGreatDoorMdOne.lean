/- The document's own ports, Ceil by a million, up, edge, out, ranged, Edge. -/
import Derived.Test.YtleflkgdbagmnaaGreatDoorMdDef
namespace Go.Proofs.YtleflkgdbagmnaaGreatDoor.Pl
open Go.RowKit Go.Proofs.YtleflkgdbagmnaaGreatDoor.Sm Go.Proofs.YtleflkgdbagmnaaGreatDoor.Dp
set_option maxHeartbeats 4000000
set_option maxRecDepth 100000
set_option linter.unusedVariables false
set_option linter.unusedSimpArgs false
/-- rounded up, of parts of a million. -/
def upI (n : Int) : Int := if 0 < n.tmod 1000000 then n.tdiv 1000000 + 1 else n.tdiv 1000000
def edgeI (c : Config) : Int := upI (2 * c.drift * c.cycle) + 1
def outI (c : Config) : Int :=
  if c.cycle < 1000 ∨ 1000000 < c.cycle then 1 else if c.drift < 0 ∨ 500 < c.drift then 2 else if c.rate < 0 ∨ 400000 < c.rate then 3
  else if c.ages < 1 ∨ 200 < c.ages then 4 else if c.lost < 0 ∨ 20 < c.lost then 5 else 0
def rangedB (c : Config) : Bool := goodB c 0 && outI c == (0 : Int)
def edgeR (c : Config) : Int := if rangedB c = true then edgeI c else 0
theorem rangedB_true (c : Config) : rangedB c = true ↔ goodB c 0 = true ∧ outI c = 0 := by simp [rangedB]
theorem outI_zero {c : Config} : outI c = 0 ↔ (1000 ≤ c.cycle ∧ c.cycle ≤ 1000000) ∧ (0 ≤ c.drift ∧ c.drift ≤ 500) ∧ (0 ≤ c.rate ∧ c.rate ≤ 400000) ∧ (1 ≤ c.ages ∧ c.ages ≤ 200) ∧ (0 ≤ c.lost ∧ c.lost ≤ 20) := by
  unfold outI
  repeat' split
  all_goals omega
theorem mul_in {a b A B : Int} (ha : 0 ≤ a) (hA : a ≤ A) (hb : 0 ≤ b) (hB : b ≤ B) : 0 ≤ a * b ∧ a * b ≤ A * B := ⟨Int.mul_nonneg ha hb, Int.mul_le_mul hA hB hb (by omega)⟩
theorem upI_in {n : Int} (h : 0 ≤ n) : n ≤ upI n * 1000000 ∧ (upI n - 1) * 1000000 < n ∧ 0 ≤ upI n ∧ upI n ≤ n := by
  unfold upI
  rw [Int.tmod_eq_emod_of_nonneg h, Int.tdiv_eq_ediv_of_nonneg h]
  split <;> omega
theorem drift_cycle {c : Config} (h : outI c = 0) : 0 ≤ 2 * c.drift * c.cycle ∧ 2 * c.drift * c.cycle ≤ 1000000000 := by
  obtain ⟨h1, h2, -⟩ := outI_zero.1 h
  have := mul_in (a := 2 * c.drift) (b := c.cycle) (A := 1000) (B := 1000000) (by omega) (by omega) (by omega) (by omega)
  omega
theorem edgeI_in {c : Config} (h : outI c = 0) : 1 ≤ edgeI c ∧ edgeI c ≤ 1001 := by
  have h1 := drift_cycle h
  have h2 := upI_in h1.1
  unfold edgeI
  omega
theorem edgeR_in (c : Config) : 0 ≤ edgeR c ∧ edgeR c ≤ 1001 := by
  unfold edgeR
  split
  · rename_i h
    have := edgeI_in ((rangedB_true c).1 h).2
    omega
  · omega
theorem wrap_tdiv {n : Int} (h : 0 ≤ n) (h1 : n ≤ 4611686018427387904) : IntKind.i64.wrap (n.tdiv 1000000) = n.tdiv 1000000 := by
  rw [Int.tdiv_eq_ediv_of_nonneg h]
  exact Ev.wrap_i64 (by omega) (by omega)
theorem wrap_tdiv1 {n : Int} (h : 0 ≤ n) (h1 : n ≤ 4611686018427387904) : IntKind.i64.wrap (n.tdiv 1000000 + 1) = n.tdiv 1000000 + 1 := by
  rw [Int.tdiv_eq_ediv_of_nonneg h]
  exact Ev.wrap_i64 (by omega) (by omega)
theorem drumlineref1_Ceil_pc (n : Int) (h0 : 0 ≤ n) (h1 : n ≤ 4611686018427387904) : PC Tryz.prog [] 53 [I n, I 1000000] (· = D.t [I (upI n), D.v (.bool true)]) := by
  refine PC.of (N := 19) Tryz.func53 rfl rfl (Nat.le_of_ble_eq_true rfl) ?_
  refine PW.seq ?_
  refine PW.region ?_
  refine PL.rowK 2 [0, 1] 0 (s' := { tab := [⟨0, [], I n⟩, ⟨1, [], I 1000000⟩], mem := [] }) (p := True) (by kernel_rfl) (by trivial) ?_
  refine PL.nil ?_
  show PW _ _ _ _ _
  refine PW.seq ?_
  refine PW.seq ?_
  refine PW.region ?_
  refine PL.rowK 2 [0, 1, 8] 0 (s' := { tab := [⟨0, [], I n⟩, ⟨1, [], I 1000000⟩, ⟨8, [], D.v (.bool false)⟩], mem := [] }) (p := True) (by kernel_rfl) (by trivial) ?_
  refine PL.nil ?_
  show PW _ _ _ _ _
  refine PW.cond (z := false) (by kernel_rfl) (fun hz0 => by cases hz0) (fun hz0 => ?_)
  refine PW.skip ?_
  show PW _ _ _ _ _
  refine PW.seq ?_
  refine PW.region ?_
  refine PL.rowK 4 [0, 1, 6] 0 (s' := { tab := [⟨0, [], I n⟩, ⟨1, [], I 1000000⟩, ⟨6, [], I (IntKind.i64.wrap (n.tdiv 1000000))⟩], mem := [] }) (p := True) (by kernel_rfl) (by trivial) ?_
  refine PL.eq (s' := { tab := [⟨0, [], I n⟩, ⟨1, [], I 1000000⟩, ⟨6, [], I (n.tdiv 1000000)⟩], mem := [] }) (by rw [wrap_tdiv h0 h1]) ?_
  refine PL.nil ?_
  show PW _ _ _ _ _
  refine PW.seq ?_
  refine PW.seq ?_
  refine PW.region ?_
  refine PL.rowK 4 [6, 15] 0 (s' := { tab := [⟨6, [], I (n.tdiv 1000000)⟩, ⟨15, [], D.v (.bool (decide ((n.tmod 1000000) > (0 : Int))))⟩], mem := [] }) (p := True) (by kernel_rfl) (by trivial) ?_
  refine PL.nil ?_
  show PW _ _ _ _ _
  refine PW.cond (z := (decide ((n.tmod 1000000) > (0 : Int)))) (by kernel_rfl) (fun hz1 => ?_) (fun hz1 => ?_)
  · skip
    try simp only [boolS, isB_true, isB_false] at hz1
    refine PW.region ?_
    refine PL.rowK 3 [6] 0 (s' := { tab := [⟨6, [], I (IntKind.i64.wrap ((n.tdiv 1000000) + 1))⟩], mem := [] }) (p := True) (by kernel_rfl) (by trivial) ?_
    refine PL.eq (s' := { tab := [⟨6, [], I (n.tdiv 1000000 + 1)⟩], mem := [] }) (by rw [wrap_tdiv1 h0 h1]) ?_
    refine PL.nil ?_
    show PW _ _ _ _ _
    refine PW.seq ?_
    refine PW.region ?_
    refine PL.rowK 3 [4, 5] 0 (s' := { tab := [⟨4, [], I (n.tdiv 1000000 + 1)⟩, ⟨5, [], D.v (.bool true)⟩], mem := [] }) (p := True) (by kernel_rfl) (by trivial) ?_
    refine PL.nil ?_
    show PW _ _ _ _ _
    refine PW.ret ?_
    refine retQ_ret (d := D.t [I (n.tdiv 1000000 + 1), D.v (.bool true)]) (ps := []) (by kernel_rfl) trivial ?_
    unfold upI
    rw [if_pos (by omega)]
  · skip
    try simp only [boolS, isB_true, isB_false] at hz1
    refine PW.skip ?_
    show PW _ _ _ _ _
    refine PW.seq ?_
    refine PW.region ?_
    refine PL.rowK 3 [4, 5] 0 (s' := { tab := [⟨4, [], I (n.tdiv 1000000)⟩, ⟨5, [], D.v (.bool true)⟩], mem := [] }) (p := True) (by kernel_rfl) (by trivial) ?_
    refine PL.nil ?_
    show PW _ _ _ _ _
    refine PW.ret ?_
    refine retQ_ret (d := D.t [I (n.tdiv 1000000), D.v (.bool true)]) (ps := []) (by kernel_rfl) trivial ?_
    unfold upI
    rw [if_neg (by omega)]
theorem drumlineref5_up_pc (n : Int) (h0 : 0 ≤ n) (h1 : n ≤ 4611686018427387904) : PC Tryz.prog [] 41 [I n] (· = I (upI n)) := by
  refine PC.of (N := 11) Tryz.func41 rfl rfl (Nat.le_of_ble_eq_true rfl) ?_
  refine PW.seq ?_
  refine PW.region ?_
  refine PL.rowK 1 [0] 0 (s' := { tab := [⟨0, [], I n⟩], mem := [] }) (p := True) (by kernel_rfl) (by trivial) ?_
  refine PL.nil ?_
  show PW _ _ _ _ _
  refine PW.seq ?_
  refine PW.region ?_
  refine PL.rowK 1 [6] 0 (s' := { tab := [⟨6, [], I n⟩], mem := [] }) (p := True) (by kernel_rfl) (by trivial) ?_
  refine PL.gcall (A := []) (f := 53) (ds := [I n, I 1000000]) (by kernel_rfl) (by kernel_rfl) (by kernel_rfl) (by kernel_rfl) (by kernel_rfl) rfl (D.t [I (upI n), D.v (.bool true)]) (fun _ => drumlineref1_Ceil_pc n (by omega) (by omega)) ?_
  refine PL.rowK 5 [3] 0 (s' := { tab := [⟨3, [], I (upI n)⟩], mem := [] }) (p := True) (by kernel_rfl) (by trivial) ?_
  refine PL.nil ?_
  show PW _ _ _ _ _
  refine PW.seq ?_
  refine PW.region ?_
  refine PL.rowK 2 [2] 0 (s' := { tab := [⟨2, [], I (upI n)⟩], mem := [] }) (p := True) (by kernel_rfl) (by trivial) ?_
  refine PL.nil ?_
  show PW _ _ _ _ _
  refine PW.ret ?_
  refine retQ_ret (d := I (upI n)) (ps := []) (by kernel_rfl) trivial ?_
  rfl
theorem drumlineref5_edge_pc (c : Config) (h : outI c = 0) : PC Tryz.prog [] 32 [D.r (Config.d c)] (· = I (edgeI c)) := by
  refine PC.of (N := 11) Tryz.func32 rfl rfl (Nat.le_of_ble_eq_true rfl) ?_
  have hdc := drift_cycle h
  have hup := upI_in hdc.1
  have ho := outI_zero.1 h
  refine PW.seq ?_
  refine PW.region ?_
  refine PL.rowK 2 [1] 1 (s' := { tab := [⟨1, [], D.p 0 0 0 0⟩], mem := [Obj.var 25 (Config.d c)] }) (p := True) (by kernel_rfl) (by trivial) ?_
  refine PL.nil ?_
  show PW _ _ _ _ _
  refine PW.seq ?_
  refine PW.region ?_
  refine PL.rowK 6 [8] 1 (s' := { tab := [⟨8, [], I (IntKind.i64.wrap ((IntKind.i64.wrap (2 * c.drift)) * c.cycle))⟩], mem := [Obj.var 25 (Config.d c)] }) (p := True) (by kernel_rfl) (by trivial) ?_
  refine PL.gcall (A := []) (f := 41) (ds := [I (IntKind.i64.wrap ((IntKind.i64.wrap (2 * c.drift)) * c.cycle))]) (by kernel_rfl) (by kernel_rfl) (by kernel_rfl) (by kernel_rfl) (by kernel_rfl) rfl (I (upI (2 * c.drift * c.cycle))) (fun _ => (show IntKind.i64.wrap (IntKind.i64.wrap (2 * c.drift) * c.cycle) = 2 * c.drift * c.cycle from by rw [Ev.wrap_i64 (x := 2 * c.drift) (by omega) (by omega), Ev.wrap_i64 (by omega) (by omega)]) ▸ drumlineref5_up_pc (2 * c.drift * c.cycle) (by omega) (by omega)) ?_
  refine PL.rowK 2 [2] 1 (s' := { tab := [⟨2, [], I (IntKind.i64.wrap ((upI (2 * c.drift * c.cycle)) + 1))⟩], mem := [Obj.var 25 (Config.d c)] }) (p := True) (by kernel_rfl) (by trivial) ?_
  refine PL.eq (s' := { tab := [⟨2, [], I (edgeI c)⟩], mem := [Obj.var 25 (Config.d c)] }) (by rw [Ev.wrap_i64 (x := upI (2 * c.drift * c.cycle) + 1) (by omega) (by omega)]; rfl) ?_
  refine PL.nil ?_
  show PW _ _ _ _ _
  refine PW.ret ?_
  refine retQ_ret (d := I (edgeI c)) (ps := []) (by kernel_rfl) trivial ?_
  rfl
theorem drumlineref5_out_pc (c : Config) : PC Tryz.prog [] 48 [D.r (Config.d c)] (· = I (outI c)) := by
  refine PC.of (N := 48) Tryz.func48 rfl rfl (Nat.le_of_ble_eq_true rfl) ?_
  refine PW.seq ?_
  refine PW.region ?_
  refine PL.rowK 2 [1] 1 (s' := { tab := [⟨1, [], D.p 0 0 0 0⟩], mem := [Obj.var 25 (Config.d c)] }) (p := True) (by kernel_rfl) (by trivial) ?_
  refine PL.nil ?_
  show PW _ _ _ _ _
  refine PW.seq ?_
  refine PW.block ?_
  refine PW.seq ?_
  refine PW.region ?_
  refine PL.rowK 9 [1, 3] 1 (s' := { tab := [⟨1, [], D.p 0 0 0 0⟩, ⟨3, [], D.v (.bool ((decide (c.cycle < (1000 : Int))) || (decide (c.cycle > (1000000 : Int)))))⟩], mem := [Obj.var 25 (Config.d c)] }) (p := True) (by kernel_rfl) (by trivial) ?_
  refine PL.nil ?_
  show PW _ _ _ _ _
  refine PW.cond (z := ((decide (c.cycle < (1000 : Int))) || (decide (c.cycle > (1000000 : Int))))) (by kernel_rfl) (fun hz0 => ?_) (fun hz0 => ?_)
  · skip
    try simp only [boolS, isB_true, isB_false] at hz0
    refine PW.seq ?_
    refine PW.region ?_
    refine PL.rowK 1 [2] 1 (s' := { tab := [⟨2, [], I 1⟩], mem := [Obj.var 25 (Config.d c)] }) (p := True) (by kernel_rfl) (by trivial) ?_
    refine PL.nil ?_
    show PW _ _ _ _ _
    refine PW.ret ?_
    refine retQ_ret (d := I 1) (ps := []) (by kernel_rfl) trivial ?_
    have ho : outI c = 1 := by unfold outI; grind
    rw [ho]
  · skip
    try simp only [boolS, isB_true, isB_false] at hz0
    refine PW.seq ?_
    refine PW.region ?_
    refine PL.rowK 9 [1, 12] 1 (s' := { tab := [⟨1, [], D.p 0 0 0 0⟩, ⟨12, [], D.v (.bool ((decide (c.drift < (0 : Int))) || (decide (c.drift > (500 : Int)))))⟩], mem := [Obj.var 25 (Config.d c)] }) (p := True) (by kernel_rfl) (by trivial) ?_
    refine PL.nil ?_
    show PW _ _ _ _ _
    refine PW.cond (z := ((decide (c.drift < (0 : Int))) || (decide (c.drift > (500 : Int))))) (by kernel_rfl) (fun hz1 => ?_) (fun hz1 => ?_)
    · skip
      try simp only [boolS, isB_true, isB_false] at hz1
      refine PW.seq ?_
      refine PW.region ?_
      refine PL.rowK 1 [2] 1 (s' := { tab := [⟨2, [], I 2⟩], mem := [Obj.var 25 (Config.d c)] }) (p := True) (by kernel_rfl) (by trivial) ?_
      refine PL.nil ?_
      show PW _ _ _ _ _
      refine PW.ret ?_
      refine retQ_ret (d := I 2) (ps := []) (by kernel_rfl) trivial ?_
      have ho : outI c = 2 := by unfold outI; grind
      rw [ho]
    · skip
      try simp only [boolS, isB_true, isB_false] at hz1
      refine PW.seq ?_
      refine PW.region ?_
      refine PL.rowK 9 [1, 21] 1 (s' := { tab := [⟨1, [], D.p 0 0 0 0⟩, ⟨21, [], D.v (.bool ((decide (c.rate < (0 : Int))) || (decide (c.rate > (400000 : Int)))))⟩], mem := [Obj.var 25 (Config.d c)] }) (p := True) (by kernel_rfl) (by trivial) ?_
      refine PL.nil ?_
      show PW _ _ _ _ _
      refine PW.cond (z := ((decide (c.rate < (0 : Int))) || (decide (c.rate > (400000 : Int))))) (by kernel_rfl) (fun hz2 => ?_) (fun hz2 => ?_)
      · skip
        try simp only [boolS, isB_true, isB_false] at hz2
        refine PW.seq ?_
        refine PW.region ?_
        refine PL.rowK 1 [2] 1 (s' := { tab := [⟨2, [], I 3⟩], mem := [Obj.var 25 (Config.d c)] }) (p := True) (by kernel_rfl) (by trivial) ?_
        refine PL.nil ?_
        show PW _ _ _ _ _
        refine PW.ret ?_
        refine retQ_ret (d := I 3) (ps := []) (by kernel_rfl) trivial ?_
        have ho : outI c = 3 := by unfold outI; grind
        rw [ho]
      · skip
        try simp only [boolS, isB_true, isB_false] at hz2
        refine PW.seq ?_
        refine PW.region ?_
        refine PL.rowK 9 [1, 30] 1 (s' := { tab := [⟨1, [], D.p 0 0 0 0⟩, ⟨30, [], D.v (.bool ((decide (c.ages < (1 : Int))) || (decide (c.ages > (200 : Int)))))⟩], mem := [Obj.var 25 (Config.d c)] }) (p := True) (by kernel_rfl) (by trivial) ?_
        refine PL.nil ?_
        show PW _ _ _ _ _
        refine PW.cond (z := ((decide (c.ages < (1 : Int))) || (decide (c.ages > (200 : Int))))) (by kernel_rfl) (fun hz3 => ?_) (fun hz3 => ?_)
        · skip
          try simp only [boolS, isB_true, isB_false] at hz3
          refine PW.seq ?_
          refine PW.region ?_
          refine PL.rowK 1 [2] 1 (s' := { tab := [⟨2, [], I 4⟩], mem := [Obj.var 25 (Config.d c)] }) (p := True) (by kernel_rfl) (by trivial) ?_
          refine PL.nil ?_
          show PW _ _ _ _ _
          refine PW.ret ?_
          refine retQ_ret (d := I 4) (ps := []) (by kernel_rfl) trivial ?_
          have ho : outI c = 4 := by unfold outI; grind
          rw [ho]
        · skip
          try simp only [boolS, isB_true, isB_false] at hz3
          refine PW.seq ?_
          refine PW.region ?_
          refine PL.rowK 9 [39] 1 (s' := { tab := [⟨39, [], D.v (.bool ((decide (c.lost < (0 : Int))) || (decide (c.lost > (20 : Int)))))⟩], mem := [Obj.var 25 (Config.d c)] }) (p := True) (by kernel_rfl) (by trivial) ?_
          refine PL.nil ?_
          show PW _ _ _ _ _
          refine PW.cond (z := ((decide (c.lost < (0 : Int))) || (decide (c.lost > (20 : Int))))) (by kernel_rfl) (fun hz4 => ?_) (fun hz4 => ?_)
          · skip
            try simp only [boolS, isB_true, isB_false] at hz4
            refine PW.seq ?_
            refine PW.region ?_
            refine PL.rowK 1 [2] 1 (s' := { tab := [⟨2, [], I 5⟩], mem := [Obj.var 25 (Config.d c)] }) (p := True) (by kernel_rfl) (by trivial) ?_
            refine PL.nil ?_
            show PW _ _ _ _ _
            refine PW.ret ?_
            refine retQ_ret (d := I 5) (ps := []) (by kernel_rfl) trivial ?_
            have ho : outI c = 5 := by unfold outI; grind
            rw [ho]
          · skip
            try simp only [boolS, isB_true, isB_false] at hz4
            refine PW.skip ?_
            show PW _ _ _ _ _
            refine PW.seq ?_
            refine PW.region ?_
            refine PL.rowK 1 [2] 1 (s' := { tab := [⟨2, [], I 0⟩], mem := [Obj.var 25 (Config.d c)] }) (p := True) (by kernel_rfl) (by trivial) ?_
            refine PL.nil ?_
            show PW _ _ _ _ _
            refine PW.ret ?_
            refine retQ_ret (d := I 0) (ps := []) (by kernel_rfl) trivial ?_
            have ho : outI c = 0 := by unfold outI; grind
            rw [ho]
theorem drumlineref5_ranged_pc (c : Config) (hp0 : c.parts.length < 1000000) (hl0 : c.links.length < 1000000) : PC Tryz.prog [] 31 [D.r (Config.d c)] (· = D.v (.bool (rangedB c))) := by
  refine PC.of (N := 10) Tryz.func31 rfl rfl (Nat.le_of_ble_eq_true rfl) ?_
  refine PW.seq ?_
  refine PW.region ?_
  refine PL.rowK 2 [1] 1 (s' := { tab := [⟨1, [], D.p 0 0 0 0⟩], mem := [Obj.var 25 (Config.d c)] }) (p := True) (by kernel_rfl) (by trivial) ?_
  refine PL.nil ?_
  show PW _ _ _ _ _
  refine PW.seq ?_
  refine PW.region ?_
  refine PL.rowK 1 [1, 3] 1 (s' := { tab := [⟨1, [], D.p 0 0 0 0⟩, ⟨3, [], D.r (Config.d c)⟩], mem := [Obj.var 25 (Config.d c)] }) (p := True) (by kernel_rfl) (by trivial) ?_
  refine PL.gcall (A := []) (f := 52) (ds := [D.r (Config.d c), I 0]) (by kernel_rfl) (by kernel_rfl) (by kernel_rfl) (by kernel_rfl) (by kernel_rfl) rfl (D.v (.bool (goodB c 0))) (fun _ => drumlineref5_Good_pc c 0 hp0 hl0) ?_
  refine PL.rowK 2 [5, 6] 1 (s' := { tab := [⟨5, [], D.v (.bool (goodB c 0))⟩, ⟨6, [(5, true)], D.r (Config.d c)⟩], mem := [Obj.var 25 (Config.d c)] }) (p := True) (by kernel_rfl) (by trivial) ?_
  refine PL.gcall (A := [(5, true)]) (f := 48) (ds := [D.r (Config.d c)]) (by kernel_rfl) (by kernel_rfl) (by kernel_rfl) (by kernel_rfl) (by kernel_rfl) rfl (I (outI c)) (fun _ => drumlineref5_out_pc c) ?_
  refine PL.rowK 3 [2] 1 (s' := { tab := [⟨2, [], D.v (.bool ((goodB c 0) && ((outI c) == (0 : Int))))⟩], mem := [Obj.var 25 (Config.d c)] }) (p := True) (by kernel_rfl) (by trivial) ?_
  refine PL.nil ?_
  show PW _ _ _ _ _
  refine PW.ret ?_
  refine retQ_ret (d := D.v (.bool ((goodB c 0) && ((outI c) == (0 : Int))))) (ps := []) (by kernel_rfl) trivial ?_
  rfl
theorem drumlineref5_Edge_pc (c : Config) (hp0 : c.parts.length < 1000000) (hl0 : c.links.length < 1000000) : PC Tryz.prog [] 8 [D.r (Config.d c)] (· = I (edgeR c)) := by
  refine PC.of (N := 8) Tryz.func8 rfl rfl (Nat.le_of_ble_eq_true rfl) ?_
  refine PW.seq ?_
  refine PW.region ?_
  refine PL.rowK 2 [1] 1 (s' := { tab := [⟨1, [], D.p 0 0 0 0⟩], mem := [Obj.var 25 (Config.d c)] }) (p := True) (by kernel_rfl) (by trivial) ?_
  refine PL.nil ?_
  show PW _ _ _ _ _
  refine PW.seq ?_
  refine PW.seq ?_
  refine PW.region ?_
  refine PL.rowK 1 [1, 3] 1 (s' := { tab := [⟨1, [], D.p 0 0 0 0⟩, ⟨3, [], D.r (Config.d c)⟩], mem := [Obj.var 25 (Config.d c)] }) (p := True) (by kernel_rfl) (by trivial) ?_
  refine PL.gcall (A := []) (f := 31) (ds := [D.r (Config.d c)]) (by kernel_rfl) (by kernel_rfl) (by kernel_rfl) (by kernel_rfl) (by kernel_rfl) rfl (D.v (.bool (rangedB c))) (fun _ => drumlineref5_ranged_pc c hp0 hl0) ?_
  refine PL.rowK 1 [1, 5] 1 (s' := { tab := [⟨1, [], D.p 0 0 0 0⟩, ⟨5, [], D.v (.bool (!(rangedB c)))⟩], mem := [Obj.var 25 (Config.d c)] }) (p := True) (by kernel_rfl) (by trivial) ?_
  refine PL.nil ?_
  show PW _ _ _ _ _
  refine PW.cond (z := (!(rangedB c))) (by kernel_rfl) (fun hz0 => ?_) (fun hz0 => ?_)
  · skip
    try simp only [boolS, isB_true, isB_false] at hz0
    refine PW.seq ?_
    refine PW.region ?_
    refine PL.rowK 1 [2] 1 (s' := { tab := [⟨2, [], I 0⟩], mem := [Obj.var 25 (Config.d c)] }) (p := True) (by kernel_rfl) (by trivial) ?_
    refine PL.nil ?_
    show PW _ _ _ _ _
    refine PW.ret ?_
    refine retQ_ret (d := I 0) (ps := []) (by kernel_rfl) trivial ?_
    unfold edgeR
    rw [hz0]
    rfl
  · skip
    try simp only [boolS, isB_true, isB_false] at hz0
    refine PW.skip ?_
    show PW _ _ _ _ _
    refine PW.seq ?_
    refine PW.region ?_
    refine PL.rowK 1 [6] 1 (s' := { tab := [⟨6, [], D.r (Config.d c)⟩], mem := [Obj.var 25 (Config.d c)] }) (p := True) (by kernel_rfl) (by trivial) ?_
    refine PL.gcall (A := []) (f := 32) (ds := [D.r (Config.d c)]) (by kernel_rfl) (by kernel_rfl) (by kernel_rfl) (by kernel_rfl) (by kernel_rfl) rfl (I (edgeI c)) (fun _ => drumlineref5_edge_pc c ((rangedB_true c).1 hz0).2) ?_
    refine PL.rowK 1 [2] 1 (s' := { tab := [⟨2, [], I (edgeI c)⟩], mem := [Obj.var 25 (Config.d c)] }) (p := True) (by kernel_rfl) (by trivial) ?_
    refine PL.nil ?_
    show PW _ _ _ _ _
    refine PW.ret ?_
    refine retQ_ret (d := I (edgeI c)) (ps := []) (by kernel_rfl) trivial ?_
    unfold edgeR
    rw [if_pos hz0]
end Go.Proofs.YtleflkgdbagmnaaGreatDoor.Pl
