/- The document's own ports, Ceil by a million, up, edge, out, ranged, Edge. -/
import Derived.Test.YtagdeldgpkjjjaaDoorMdDef
namespace Go.Proofs.YtagdeldgpkjjjaaDoor.Pl
open Go.RowKit Go.Proofs.YtagdeldgpkjjjaaDoor.Sm Go.Proofs.YtagdeldgpkjjjaaDoor.Dp
set_option maxHeartbeats 4000000
set_option maxRecDepth 100000
set_option linter.unusedVariables false
set_option linter.unusedSimpArgs false
/-- rounded up, of parts of a million. -/
def upI (n : Int) : Int := if 0 < n.tmod 1000000 then n.tdiv 1000000 + 1 else n.tdiv 1000000
def edgeI (c : Config) : Int := upI (2 * c.drift * c.cycle) + 1
def outI (c : Config) : Int :=
  if c.cycle < 1000 ∨ 1000000 < c.cycle then 1 else if c.drift < 0 ∨ 500 < c.drift then 2 else if c.rate < 0 ∨ 400000 < c.rate then 3
  else if c.ages < 1 ∨ 200 < c.ages then 4 else if c.lost < 0 ∨ 20 < c.lost then 5 else 0
def rangedB (c : Config) : Bool := goodB c 0 && outI c == (0 : Int)
def edgeR (c : Config) : Int := if rangedB c = true then edgeI c else 0
theorem rangedB_true (c : Config) : rangedB c = true ↔ goodB c 0 = true ∧ outI c = 0 := by simp [rangedB]
theorem outI_zero {c : Config} : outI c = 0 ↔ (1000 ≤ c.cycle ∧ c.cycle ≤ 1000000) ∧ (0 ≤ c.drift ∧ c.drift ≤ 500) ∧ (0 ≤ c.rate ∧ c.rate ≤ 400000) ∧ (1 ≤ c.ages ∧ c.ages ≤ 200) ∧ (0 ≤ c.lost ∧ c.lost ≤ 20) := by
  unfold outI
  repeat' split
  all_goals omega
theorem mul_in {a b A B : Int} (ha : 0 ≤ a) (hA : a ≤ A) (hb : 0 ≤ b) (hB : b ≤ B) : 0 ≤ a * b ∧ a * b ≤ A * B := ⟨Int.mul_nonneg ha hb, Int.mul_le_mul hA hB hb (by omega)⟩
theorem upI_in {n : Int} (h : 0 ≤ n) : n ≤ upI n * 1000000 ∧ (upI n - 1) * 1000000 < n ∧ 0 ≤ upI n ∧ upI n ≤ n := by
  unfold upI
  rw [Int.tmod_eq_emod_of_nonneg h, Int.tdiv_eq_ediv_of_nonneg h]
  split <;> omega
theorem drift_cycle {c : Config} (h : outI c = 0) : 0 ≤ 2 * c.drift * c.cycle ∧ 2 * c.drift * c.cycle ≤ 1000000000 := by
  obtain ⟨h1, h2, -⟩ := outI_zero.1 h
  have := mul_in (a := 2 * c.drift) (b := c.cycle) (A := 1000) (B := 1000000) (by omega) (by omega) (by omega) (by omega)
  omega
theorem edgeI_in {c : Config} (h : outI c = 0) : 1 ≤ edgeI c ∧ edgeI c ≤ 1001 := by
  have h1 := drift_cycle h
  have h2 := upI_in h1.1
  unfold edgeI
  omega
theorem edgeR_in (c : Config) : 0 ≤ edgeR c ∧ edgeR c ≤ 1001 := by
  unfold edgeR
  split
  · rename_i h
    have := edgeI_in ((rangedB_true c).1 h).2
    omega
  · omega
theorem drumlineref26_ports_pc (c : Config) (part : Int) (hl0 : c.links.length < 1000000) : PC Tryd.prog [] 24 [D.r (Config.d c), I part] (· = I (portsI c.links part)) := by
 refine PC.of (N := 35) Tryd.func24 rfl rfl (Nat.le_of_ble_eq_true rfl) ?_
 refine PW.sr [1, 2] 1 trivial ?_
 refine PW.sr [1, 2, 5] 1 trivial ?_
 refine PW.seq ?_
 refine PW.sr [1, 2, 5, 6] 1 trivial ?_
 refine PW.block ?_
 refine PW.lp (α := Nat × Int) (fun (i, x) => { tab := [⟨1, [], I part⟩, ⟨2, [], D.p 0 0 0 0⟩, ⟨5, [], I x⟩, ⟨6, [], I (i : Int)⟩], mem := [Obj.var 26 (Config.d c)] }) (fun (i, x) => i ≤ c.links.length ∧ x = cntL c.links part i) (fun (i, x) => c.links.length - i) [1, 2, 5, 6] 1 (0, 0) ?_ ?_
 ·dsimp only
  exact ⟨Nat.zero_le _, rfl⟩
 rintro ⟨i, x⟩ hinv
 dsimp only at hinv
 have hx := cntL_in c.links part i
 show PW _ _ _ _ _
 refine PW.seq ?_
 refine PW.sr [1, 2, 5, 6, 11] 1 trivial ?_
 refine PW.cd (decide ((i : Int) < (c.links.length : Int))) (fun hz0 => ?_) (fun hz0 => ?_)
 ·try simp only [boolS, isB_true, isB_false] at hz0
  refine PW.skip ?_
  show PW _ _ _ _ _
  refine PW.seq ?_
  refine PW.block ?_
  refine PW.sr [1, 2, 5, 6, 31] 1 (p := (0 ≤ (i : Int) ∧ (i : Int) < (c.links.length : Int)) ∧ (((((c.links.getD i default).a) == part) = false ∧ True → 0 ≤ (i : Int) ∧ (i : Int) < (c.links.length : Int)))) (by ((repeat' (first | intro _ | refine And.intro ?_ ?_)) <;> first | omega | trivial | assumption | (rename_i hgd; simp only [Bool.and_eq_true, decide_eq_true_eq, and_true] at hgd; omega))) ?_
  refine PW.cd ((((c.links.getD i default).a) == part) || (((c.links.getD i default).b) == part)) (fun hz1 => ?_) (fun hz1 => ?_)
  ·try simp only [boolS, isB_true, isB_false] at hz1
   refine PW.rr [1, 2, 5, 6] 1 trivial ?_
   show PW _ _ _ _ _
   refine PW.rr [1, 2, 5, 6] 1 trivial ?_
   refine BackR.of (s1 := { tab := [⟨1, [], I part⟩, ⟨2, [], D.p 0 0 0 0⟩, ⟨5, [], I (IntKind.i64.wrap (x + 2))⟩, ⟨6, [], I (IntKind.i64.wrap ((i : Int) + 1))⟩], mem := [Obj.var 26 (Config.d c)] }) (i + 1, x + 2) (by kernel_rfl) (by kernel_rfl) ?_ ?_ ?_
   ·dsimp only
    rw [wrap1 i (by omega)]
    try rw [Ev.wrap_i64 (by omega) (by omega)]
    exact Rem.refl _
   ·dsimp only
    refine ⟨by omega, ?_⟩
    rw [cntL, ← hinv.2]
    grind
   ·dsimp only
    ((repeat' (first | intro _ | refine And.intro ?_ ?_)) <;> first | omega | trivial | assumption | (rename_i hgd; simp only [Bool.and_eq_true, decide_eq_true_eq, and_true] at hgd; omega))
  ·try simp only [boolS, isB_true, isB_false] at hz1
   refine PW.skip ?_
   show PW _ _ _ _ _
   refine PW.rr [1, 2, 5, 6] 1 trivial ?_
   refine BackR.of (s1 := { tab := [⟨1, [], I part⟩, ⟨2, [], D.p 0 0 0 0⟩, ⟨5, [], I x⟩, ⟨6, [], I (IntKind.i64.wrap ((i : Int) + 1))⟩], mem := [Obj.var 26 (Config.d c)] }) (i + 1, x) (by kernel_rfl) (by kernel_rfl) ?_ ?_ ?_
   ·dsimp only
    rw [wrap1 i (by omega)]
    try rw [Ev.wrap_i64 (by omega) (by omega)]
    exact Rem.refl _
   ·dsimp only
    refine ⟨by omega, ?_⟩
    rw [cntL, ← hinv.2]
    grind
   ·dsimp only
    ((repeat' (first | intro _ | refine And.intro ?_ ?_)) <;> first | omega | trivial | assumption | (rename_i hgd; simp only [Bool.and_eq_true, decide_eq_true_eq, and_true] at hgd; omega))
 ·try simp only [boolS, isB_true, isB_false] at hz0
  refine PW.exit ?_
  show PW _ _ _ _ _
  refine PW.sr [4] 1 trivial ?_
  refine PW.ret ?_
  refine retQ_ret (d := I x) (ps := []) (by kernel_rfl) trivial ?_
  rw [hinv.2, show i = c.links.length by omega]
  rfl
theorem wrap_tdiv {n : Int} (h : 0 ≤ n) (h1 : n ≤ 4611686018427387904) : IntKind.i64.wrap (n.tdiv 1000000) = n.tdiv 1000000 := by
  rw [Int.tdiv_eq_ediv_of_nonneg h]
  exact Ev.wrap_i64 (by omega) (by omega)
theorem wrap_tdiv1 {n : Int} (h : 0 ≤ n) (h1 : n ≤ 4611686018427387904) : IntKind.i64.wrap (n.tdiv 1000000 + 1) = n.tdiv 1000000 + 1 := by
  rw [Int.tdiv_eq_ediv_of_nonneg h]
  exact Ev.wrap_i64 (by omega) (by omega)
theorem drumlineref1_Ceil_pc (n : Int) (h0 : 0 ≤ n) (h1 : n ≤ 4611686018427387904) : PC Tryd.prog [] 37 [I n, I 1000000] (· = D.t [I (upI n), D.v (.bool true)]) := by
 refine PC.of (N := 19) Tryd.func37 rfl rfl (Nat.le_of_ble_eq_true rfl) ?_
 refine PW.sr [0, 1] 0 trivial ?_
 refine PW.seq ?_
 refine PW.sr [0, 1, 8] 0 trivial ?_
 refine PW.cd false (fun hz0 => by cases hz0) (fun hz0 => ?_)
 refine PW.skip ?_
 show PW _ _ _ _ _
 refine PW.sg ?_
 refine PL.row 4 [0, 1, 6] 0 (s' := { tab := [⟨0, [], I n⟩, ⟨1, [], I 1000000⟩, ⟨6, [], I (IntKind.i64.wrap (n.tdiv 1000000))⟩], mem := [] }) (p := True) (by kernel_rfl) (by kernel_rfl) (by kernel_rfl) (by kernel_rfl) (by kernel_rfl) trivial ?_
 refine PL.eq (s' := { tab := [⟨0, [], I n⟩, ⟨1, [], I 1000000⟩, ⟨6, [], I (n.tdiv 1000000)⟩], mem := [] }) (by rw [wrap_tdiv h0 h1]) ?_
 refine PL.nl ?_
 refine PW.seq ?_
 refine PW.sr [6, 15] 0 trivial ?_
 refine PW.cd (decide ((n.tmod 1000000) > (0 : Int))) (fun hz1 => ?_) (fun hz1 => ?_)
 ·try simp only [boolS, isB_true, isB_false] at hz1
  refine PW.region ?_
  refine PL.row 3 [6] 0 (s' := { tab := [⟨6, [], I (IntKind.i64.wrap ((n.tdiv 1000000) + 1))⟩], mem := [] }) (p := True) (by kernel_rfl) (by kernel_rfl) (by kernel_rfl) (by kernel_rfl) (by kernel_rfl) trivial ?_
  refine PL.eq (s' := { tab := [⟨6, [], I (n.tdiv 1000000 + 1)⟩], mem := [] }) (by rw [wrap_tdiv1 h0 h1]) ?_
  refine PL.nil ?_
  show PW _ _ _ _ _
  refine PW.sr [4, 5] 0 trivial ?_
  refine PW.ret ?_
  refine retQ_ret (d := D.t [I (n.tdiv 1000000 + 1), D.v (.bool true)]) (ps := []) (by kernel_rfl) trivial ?_
  unfold upI
  rw [if_pos (by omega)]
 ·try simp only [boolS, isB_true, isB_false] at hz1
  refine PW.skip ?_
  show PW _ _ _ _ _
  refine PW.sr [4, 5] 0 trivial ?_
  refine PW.ret ?_
  refine retQ_ret (d := D.t [I (n.tdiv 1000000), D.v (.bool true)]) (ps := []) (by kernel_rfl) trivial ?_
  unfold upI
  rw [if_neg (by omega)]
theorem drumlineref5_up_pc (n : Int) (h0 : 0 ≤ n) (h1 : n ≤ 4611686018427387904) : PC Tryd.prog [] 31 [I n] (· = I (upI n)) := by
 refine PC.of (N := 11) Tryd.func31 rfl rfl (Nat.le_of_ble_eq_true rfl) ?_
 refine PW.sr [0] 0 trivial ?_
 refine PW.sg ?_
 refine PL.rw 1 [6] 0 trivial ?_
 refine PL.gc (A := []) (fun _ => drumlineref1_Ceil_pc n (by omega) (by omega)) ?_
 refine PL.rw 5 [3] 0 trivial ?_
 refine PL.nl ?_
 refine PW.sr [2] 0 trivial ?_
 refine PW.ret ?_
 refine retQ_ret (d := I (upI n)) (ps := []) (by kernel_rfl) trivial ?_
 rfl
theorem drumlineref5_edge_pc (c : Config) (h : outI c = 0) : PC Tryd.prog [] 26 [D.r (Config.d c)] (· = I (edgeI c)) := by
 refine PC.of (N := 11) Tryd.func26 rfl rfl (Nat.le_of_ble_eq_true rfl) ?_
 have hdc := drift_cycle h
 have hup := upI_in hdc.1
 have ho := outI_zero.1 h
 refine PW.sr [1] 1 trivial ?_
 refine PW.sg ?_
 refine PL.rw 6 [8] 1 trivial ?_
 refine PL.gc (G := []) (f := 31) (ds0 := [I (IntKind.i64.wrap ((IntKind.i64.wrap (2 * c.drift)) * c.cycle))]) (d := I (upI (2 * c.drift * c.cycle))) (A := []) (fun _ => (show IntKind.i64.wrap (IntKind.i64.wrap (2 * c.drift) * c.cycle) = 2 * c.drift * c.cycle from by rw [Ev.wrap_i64 (x := 2 * c.drift) (by omega) (by omega), Ev.wrap_i64 (by omega) (by omega)]) ▸ drumlineref5_up_pc (2 * c.drift * c.cycle) (by omega) (by omega)) ?_
 refine PL.row 2 [2] 1 (s' := { tab := [⟨2, [], I (IntKind.i64.wrap ((upI (2 * c.drift * c.cycle)) + 1))⟩], mem := [Obj.var 26 (Config.d c)] }) (p := True) (by kernel_rfl) (by kernel_rfl) (by kernel_rfl) (by kernel_rfl) (by kernel_rfl) trivial ?_
 refine PL.eq (s' := { tab := [⟨2, [], I (edgeI c)⟩], mem := [Obj.var 26 (Config.d c)] }) (by rw [Ev.wrap_i64 (x := upI (2 * c.drift * c.cycle) + 1) (by omega) (by omega)]; rfl) ?_
 refine PL.nl ?_
 refine PW.ret ?_
 refine retQ_ret (d := I (edgeI c)) (ps := []) (by kernel_rfl) trivial ?_
 rfl
theorem drumlineref5_out_pc (c : Config) : PC Tryd.prog [] 30 [D.r (Config.d c)] (· = I (outI c)) := by
 refine PC.of (N := 48) Tryd.func30 rfl rfl (Nat.le_of_ble_eq_true rfl) ?_
 refine PW.sr [1] 1 trivial ?_
 refine PW.seq ?_
 refine PW.block ?_
 refine PW.sr [1, 3] 1 trivial ?_
 refine PW.cd ((decide (c.cycle < (1000 : Int))) || (decide (c.cycle > (1000000 : Int)))) (fun hz0 => ?_) (fun hz0 => ?_)
 ·try simp only [boolS, isB_true, isB_false] at hz0
  refine PW.sr [2] 1 trivial ?_
  refine PW.ret ?_
  refine retQ_ret (d := I 1) (ps := []) (by kernel_rfl) trivial ?_
  have ho : outI c = 1 := by unfold outI; grind
  rw [ho]
 ·try simp only [boolS, isB_true, isB_false] at hz0
  refine PW.sr [1, 12] 1 trivial ?_
  refine PW.cd ((decide (c.drift < (0 : Int))) || (decide (c.drift > (500 : Int)))) (fun hz1 => ?_) (fun hz1 => ?_)
  ·try simp only [boolS, isB_true, isB_false] at hz1
   refine PW.sr [2] 1 trivial ?_
   refine PW.ret ?_
   refine retQ_ret (d := I 2) (ps := []) (by kernel_rfl) trivial ?_
   have ho : outI c = 2 := by unfold outI; grind
   rw [ho]
  ·try simp only [boolS, isB_true, isB_false] at hz1
   refine PW.sr [1, 21] 1 trivial ?_
   refine PW.cd ((decide (c.rate < (0 : Int))) || (decide (c.rate > (400000 : Int)))) (fun hz2 => ?_) (fun hz2 => ?_)
   ·try simp only [boolS, isB_true, isB_false] at hz2
    refine PW.sr [2] 1 trivial ?_
    refine PW.ret ?_
    refine retQ_ret (d := I 3) (ps := []) (by kernel_rfl) trivial ?_
    have ho : outI c = 3 := by unfold outI; grind
    rw [ho]
   ·try simp only [boolS, isB_true, isB_false] at hz2
    refine PW.sr [1, 30] 1 trivial ?_
    refine PW.cd ((decide (c.ages < (1 : Int))) || (decide (c.ages > (200 : Int)))) (fun hz3 => ?_) (fun hz3 => ?_)
    ·try simp only [boolS, isB_true, isB_false] at hz3
     refine PW.sr [2] 1 trivial ?_
     refine PW.ret ?_
     refine retQ_ret (d := I 4) (ps := []) (by kernel_rfl) trivial ?_
     have ho : outI c = 4 := by unfold outI; grind
     rw [ho]
    ·try simp only [boolS, isB_true, isB_false] at hz3
     refine PW.sr [39] 1 trivial ?_
     refine PW.cd ((decide (c.lost < (0 : Int))) || (decide (c.lost > (20 : Int)))) (fun hz4 => ?_) (fun hz4 => ?_)
     ·try simp only [boolS, isB_true, isB_false] at hz4
      refine PW.sr [2] 1 trivial ?_
      refine PW.ret ?_
      refine retQ_ret (d := I 5) (ps := []) (by kernel_rfl) trivial ?_
      have ho : outI c = 5 := by unfold outI; grind
      rw [ho]
     ·try simp only [boolS, isB_true, isB_false] at hz4
      refine PW.skip ?_
      show PW _ _ _ _ _
      refine PW.sr [2] 1 trivial ?_
      refine PW.ret ?_
      refine retQ_ret (d := I 0) (ps := []) (by kernel_rfl) trivial ?_
      have ho : outI c = 0 := by unfold outI; grind
      rw [ho]
theorem drumlineref5_ranged_pc (c : Config) (hp0 : c.parts.length < 1000000) (hl0 : c.links.length < 1000000) : PC Tryd.prog [] 25 [D.r (Config.d c)] (· = D.v (.bool (rangedB c))) := by
 refine PC.of (N := 10) Tryd.func25 rfl rfl (Nat.le_of_ble_eq_true rfl) ?_
 refine PW.sr [1] 1 trivial ?_
 refine PW.sg ?_
 refine PL.rw 1 [1, 3] 1 trivial ?_
 refine PL.gc (A := []) (fun _ => drumlineref5_Good_pc c 0 hp0 hl0) ?_
 refine PL.rw 2 [5, 6] 1 trivial ?_
 refine PL.gc (A := [(5, true)]) (fun _ => drumlineref5_out_pc c) ?_
 refine PL.rw 3 [2] 1 trivial ?_
 refine PL.nl ?_
 refine PW.ret ?_
 refine retQ_ret (d := D.v (.bool ((goodB c 0) && ((outI c) == (0 : Int))))) (ps := []) (by kernel_rfl) trivial ?_
 rfl
theorem drumlineref5_Edge_pc (c : Config) (hp0 : c.parts.length < 1000000) (hl0 : c.links.length < 1000000) : PC Tryd.prog [] 16 [D.r (Config.d c)] (· = I (edgeR c)) := by
 refine PC.of (N := 8) Tryd.func16 rfl rfl (Nat.le_of_ble_eq_true rfl) ?_
 refine PW.sr [1] 1 trivial ?_
 refine PW.seq ?_
 refine PW.sg ?_
 refine PL.rw 1 [1, 3] 1 trivial ?_
 refine PL.gc (A := []) (fun _ => drumlineref5_ranged_pc c hp0 hl0) ?_
 refine PL.rw 1 [1, 5] 1 trivial ?_
 refine PL.nl ?_
 refine PW.cd (!(rangedB c)) (fun hz0 => ?_) (fun hz0 => ?_)
 ·try simp only [boolS, isB_true, isB_false] at hz0
  refine PW.sr [2] 1 trivial ?_
  refine PW.ret ?_
  refine retQ_ret (d := I 0) (ps := []) (by kernel_rfl) trivial ?_
  unfold edgeR
  rw [hz0]
  rfl
 ·try simp only [boolS, isB_true, isB_false] at hz0
  refine PW.skip ?_
  show PW _ _ _ _ _
  refine PW.sg ?_
  refine PL.rw 1 [6] 1 trivial ?_
  refine PL.gc (A := []) (fun _ => drumlineref5_edge_pc c ((rangedB_true c).1 hz0).2) ?_
  refine PL.rw 1 [2] 1 trivial ?_
  refine PL.nl ?_
  refine PW.ret ?_
  refine retQ_ret (d := I (edgeI c)) (ps := []) (by kernel_rfl) trivial ?_
  unfold edgeR
  rw [if_pos hz0]
end Go.Proofs.YtagdeldgpkjjjaaDoor.Pl
