/- Chapter 5's law PlanPorts. -/
import Derived.Test.YtlcjcdgmiaakjaaDoorPlPF
namespace Go.Proofs.YtlcjcdgmiaakjaaDoor.Pl
open Go.RowKit Go.Proofs.YtlcjcdgmiaakjaaDoor.Sm Go.Proofs.YtlcjcdgmiaakjaaDoor.Dp
set_option maxHeartbeats 4000000
set_option maxRecDepth 100000
set_option linter.unusedVariables false
set_option linter.unusedSimpArgs false
def bumpC (cs : List Int) (p : Port) : List Int := cs.set p.link.toNat (IntKind.i64.wrap (cs.getD p.link.toNat default + 1))
def cntPorts (cs : List Int) (ps : List Port) : Nat → List Int
  | 0 => cs
  | i + 1 => bumpC (cntPorts cs ps i) (ps.getD i default)
/-- how many ports each link has, of the first parts. -/
def cntAll (c : Config) (cs : List Int) : Nat → List Int
  | 0 => cs
  | k + 1 => cntPorts (cntAll c cs k) (portsOf c (k : Int)) (portsOf c (k : Int)).length
theorem cntPorts_len (cs : List Int) (ps : List Port) : ∀ i, (cntPorts cs ps i).length = cs.length
  | 0 => rfl
  | i + 1 => by rw [cntPorts, bumpC, List.length_set, cntPorts_len cs ps i]
theorem cntAll_len (c : Config) (cs : List Int) : ∀ k, (cntAll c cs k).length = cs.length
  | 0 => rfl
  | k + 1 => by rw [cntAll, cntPorts_len, cntAll_len c cs k]
theorem ports_in {c : Config} {part : Int} {i : Nat} (hi : i < (portsOf c part).length) : 0 ≤ ((portsOf c part).getD i default).link ∧ ((portsOf c part).getD i default).link < (c.links.length : Int) ∧ 0 ≤ ((portsOf c part).getD i default).gate ∧ ((portsOf c part).getD i default).gate ≤ 1 := by
  have hm := (mem_portsOf c part _).1 (getD_mem hi)
  obtain ⟨k, hk, g, s, e, hg, -⟩ := portQ_form hm
  have e1 := congrArg Port.link e
  have e2 := congrArg Port.gate e
  dsimp only at e1 e2
  rw [e1, e2]
  omega
theorem ports_rise {c : Config} {part : Int} {i : Nat} (h0 : 0 < i) (hi : i < (portsOf c part).length) : ((portsOf c part).getD (i - 1) default).node < ((portsOf c part).getD i default).node := by
  have := List.pairwise_iff_getElem.1 (portsOf_sorted c part) (i - 1) i (by omega) hi (by omega)
  rw [List.getD_eq_getElem?_getD, List.getD_eq_getElem?_getD, List.getElem?_eq_getElem (by omega), List.getElem?_eq_getElem hi]
  exact this
theorem drumlinelaw5_PlanPorts_pc (e : Nat → Addr) (hA : Apart e) (n : Int) (c : Config) (hM : PC Tryd.prog (errG2 e) 24 [I n] (· = D.r (Config.d c))) (hAll : cntAll c (List.replicate c.links.length 0) c.parts.length = List.replicate c.links.length 4) (hp0 : c.parts.length < 1000000) (hl0 : c.links.length < 1000000) : PC Tryd.prog (errG2 e) 7 [I n] (· = D.v (.bool true)) := by
  refine PC.of (N := 111) Tryd.func7 rfl rfl (Nat.le_of_ble_eq_true rfl) ?_
  refine PW.seq ?_
  refine PW.region ?_
  refine PL.rowK 1 [0] 0 (s' := { tab := [⟨0, [], I n⟩], mem := [], gl := (errG2 e) }) (p := True) (by kernel_rfl) (by trivial) ?_
  refine PL.nil ?_
  show PW _ _ _ _ _
  refine PW.seq ?_
  refine PW.seq ?_
  refine PW.region ?_
  refine PL.gcall (A := []) (f := 12) (ds := []) (by kernel_rfl) (by kernel_rfl) (by kernel_rfl) (by kernel_rfl) (by kernel_rfl) rfl (D.v (.bool true)) (fun _ => drumlinelaw5_alive_pc e hA) ?_
  refine PL.rowK 1 [0, 10] 0 (s' := { tab := [⟨0, [], I n⟩, ⟨10, [], D.v (.bool false)⟩], mem := [], gl := (errG2 e) }) (p := True) (by kernel_rfl) (by trivial) ?_
  refine PL.nil ?_
  show PW _ _ _ _ _
  refine PW.cond (z := false) (by kernel_rfl) (fun hz0 => by cases hz0) (fun hz0 => ?_)
  refine PW.skip ?_
  show PW _ _ _ _ _
  refine PW.seq ?_
  refine PW.region ?_
  refine PL.rowK 1 [11] 0 (s' := { tab := [⟨11, [], I n⟩], mem := [], gl := (errG2 e) }) (p := True) (by kernel_rfl) (by trivial) ?_
  refine PL.gcall (A := []) (f := 24) (ds := [I n]) (by kernel_rfl) (by kernel_rfl) (by kernel_rfl) (by kernel_rfl) (by kernel_rfl) rfl (D.r (Config.d c)) (fun _ => hM) ?_
  refine PL.rowK 2 [3] 1 (s' := { tab := [⟨3, [], D.p 0 0 0 0⟩], mem := [Obj.var 25 (Config.d c)], gl := (errG2 e) }) (p := True) (by kernel_rfl) (by trivial) ?_
  refine PL.nil ?_
  show PW _ _ _ _ _
  refine PW.seq ?_
  refine PW.region ?_
  refine PL.rowK 4 [3, 16] 2 (s' := { tab := [⟨3, [], D.p 0 0 0 0⟩, ⟨16, [], D.h 1 c.links.length⟩], mem := [Obj.var 25 (Config.d c), Obj.row 3 1 c.links.length (fun _ => [I 0])], gl := (errG2 e) }) (p := ((c.links.length : Int) = (c.links.length : Int) ∧ 0 ≤ (c.links.length : Int) ∧ ((8 : Nat) : Int) * (c.links.length : Int) ≤ 281474976710656 ∧ (c.links.length : Int) ≤ 9223372036854775807)) (by kernel_rfl) (by ((repeat' (first | intro _ | refine And.intro ?_ ?_)) <;> first | omega | trivial | assumption | (rename_i hgd; simp only [Bool.and_eq_true, decide_eq_true_eq, and_true] at hgd; omega))) ?_
  refine PL.rem (s' := { tab := [⟨3, [], D.p 0 0 0 0⟩, ⟨16, [], D.h 1 c.links.length⟩], mem := [Obj.var 25 (Config.d c), Obj.row 3 1 c.links.length (fun j => [I ((List.replicate c.links.length (0 : Int)).getD j default)])], gl := (errG2 e) }) ⟨rfl, rfl, rfl, (.same (.row rfl (fun j hj => by (try dsimp only); rw [getD_rep _ _ _ _ hj]) .nil))⟩ ?_
  refine PL.rowK 1 [3, 4] 2 (s' := { tab := [⟨3, [], D.p 0 0 0 0⟩, ⟨4, [], D.h 1 c.links.length⟩], mem := [Obj.var 25 (Config.d c), Obj.row 3 1 c.links.length (fun j => [I ((List.replicate c.links.length (0 : Int)).getD j default)])], gl := (errG2 e) }) (p := True) (by kernel_rfl) (by trivial) ?_
  refine PL.nil ?_
  show PW _ _ _ _ _
  refine PW.seq ?_
  refine PW.seq ?_
  refine PW.region ?_
  refine PL.rowK 1 [3, 4, 5] 2 (s' := { tab := [⟨3, [], D.p 0 0 0 0⟩, ⟨4, [], D.h 1 c.links.length⟩, ⟨5, [], I 0⟩], mem := [Obj.var 25 (Config.d c), Obj.row 3 1 c.links.length (fun j => [I ((List.replicate c.links.length (0 : Int)).getD j default)])], gl := (errG2 e) }) (p := True) (by kernel_rfl) (by trivial) ?_
  refine PL.nil ?_
  show PW _ _ _ _ _
  refine PW.block ?_
  refine PW.loopR (α := Nat × List Int) (fun (k, cs) => { tab := [⟨3, [], D.p 0 0 0 0⟩, ⟨4, [], D.h 1 c.links.length⟩, ⟨5, [], I (k : Int)⟩], mem := [Obj.var 25 (Config.d c), Obj.row 3 1 c.links.length (fun j => [I (cs.getD j default)])], gl := (errG2 e) }) (fun (k, cs) => k ≤ c.parts.length ∧ cs = cntAll c (List.replicate c.links.length 0) k) (fun (k, cs) => c.parts.length - k) [3, 4, 5] 2 (0, List.replicate c.links.length 0) (s1 := { tab := [⟨3, [], D.p 0 0 0 0⟩, ⟨4, [], D.h 1 c.links.length⟩, ⟨5, [], I 0⟩], mem := [Obj.var 25 (Config.d c), Obj.row 3 1 c.links.length (fun j => [I ((List.replicate c.links.length (0 : Int)).getD j default)])], gl := (errG2 e) }) (by kernel_rfl) (by kernel_rfl) ?_ ?_ ?_
  · dsimp only
    exact Rem.refl _
  · dsimp only
    exact ⟨Nat.zero_le _, rfl⟩
  rintro ⟨k, cs⟩ hinv
  dsimp only at hinv
  have hcs : cs.length = c.links.length := by rw [hinv.2, cntAll_len]; simp
  show PW _ _ _ _ _
  refine PW.seq ?_
  refine PW.seq ?_
  refine PW.region ?_
  refine PL.rowK 5 [3, 4, 5, 21] 2 (s' := { tab := [⟨3, [], D.p 0 0 0 0⟩, ⟨4, [], D.h 1 c.links.length⟩, ⟨5, [], I (k : Int)⟩, ⟨21, [], D.v (.bool (decide ((k : Int) < (c.parts.length : Int))))⟩], mem := [Obj.var 25 (Config.d c), Obj.row 3 1 c.links.length (fun j => [I (cs.getD j default)])], gl := (errG2 e) }) (p := True) (by kernel_rfl) (by trivial) ?_
  refine PL.nil ?_
  show PW _ _ _ _ _
  refine PW.cond (z := (decide ((k : Int) < (c.parts.length : Int)))) (by kernel_rfl) (fun hz1 => ?_) (fun hz1 => ?_)
  · skip
    try simp only [boolS, isB_true, isB_false] at hz1
    try have hil : i < (portsOf c (k : Int)).length := by omega
    try have hpi := hpin hil
    refine PW.skip ?_
    show PW _ _ _ _ _
    refine PW.seq ?_
    refine PW.block ?_
    refine PW.seq ?_
    refine PW.region ?_
    refine PL.rowK 2 [3, 4, 5, 24, 25] 2 (s' := { tab := [⟨3, [], D.p 0 0 0 0⟩, ⟨4, [], D.h 1 c.links.length⟩, ⟨5, [], I (k : Int)⟩, ⟨24, [], D.r (Config.d c)⟩, ⟨25, [], I (k : Int)⟩], mem := [Obj.var 25 (Config.d c), Obj.row 3 1 c.links.length (fun j => [I (cs.getD j default)])], gl := (errG2 e) }) (p := True) (by kernel_rfl) (by trivial) ?_
    refine PL.gcall (A := []) (f := 22) (ds := [D.r (Config.d c), I (k : Int)]) (by kernel_rfl) (by kernel_rfl) (by kernel_rfl) (by kernel_rfl) (by kernel_rfl) rfl (sl' 4 Port.d (portsOf c (k : Int))) (fun _ => (plan_Ports_pc0 e c (k : Int) hp0 hl0).list) ?_
    refine PL.rowK 1 [3, 4, 5, 6] 2 (s' := { tab := [⟨3, [], D.p 0 0 0 0⟩, ⟨4, [], D.h 1 c.links.length⟩, ⟨5, [], I (k : Int)⟩, ⟨6, [], sl' 4 Port.d (portsOf c (k : Int))⟩], mem := [Obj.var 25 (Config.d c), Obj.row 3 1 c.links.length (fun j => [I (cs.getD j default)])], gl := (errG2 e) }) (p := True) (by kernel_rfl) (by trivial) ?_
    refine PL.nil ?_
    show PW _ _ _ _ _
    refine PW.seq ?_
    refine PW.region ?_
    refine PL.rowK 1 [3, 4, 5, 6, 7] 2 (s' := { tab := [⟨3, [], D.p 0 0 0 0⟩, ⟨4, [], D.h 1 c.links.length⟩, ⟨5, [], I (k : Int)⟩, ⟨6, [], sl' 4 Port.d (portsOf c (k : Int))⟩, ⟨7, [], I 0⟩], mem := [Obj.var 25 (Config.d c), Obj.row 3 1 c.links.length (fun j => [I (cs.getD j default)])], gl := (errG2 e) }) (p := True) (by kernel_rfl) (by trivial) ?_
    refine PL.nil ?_
    show PW _ _ _ _ _
    refine PW.block ?_
    refine PW.loopR (α := Nat × List Int) (fun (i, ds) => { tab := [⟨3, [], D.p 0 0 0 0⟩, ⟨4, [], D.h 1 c.links.length⟩, ⟨5, [], I (k : Int)⟩, ⟨6, [], sl' 4 Port.d (portsOf c (k : Int))⟩, ⟨7, [], I (i : Int)⟩], mem := [Obj.var 25 (Config.d c), Obj.row 3 1 c.links.length (fun j => [I (ds.getD j default)])], gl := (errG2 e) }) (fun (i, ds) => i ≤ (portsOf c (k : Int)).length ∧ ds = cntPorts cs (portsOf c (k : Int)) i) (fun (i, ds) => (portsOf c (k : Int)).length - i) [3, 4, 5, 6, 7] 2 (0, cs) (s1 := { tab := [⟨3, [], D.p 0 0 0 0⟩, ⟨4, [], D.h 1 c.links.length⟩, ⟨5, [], I (k : Int)⟩, ⟨6, [], sl' 4 Port.d (portsOf c (k : Int))⟩, ⟨7, [], I 0⟩], mem := [Obj.var 25 (Config.d c), Obj.row 3 1 c.links.length (fun j => [I (cs.getD j default)])], gl := (errG2 e) }) (by kernel_rfl) (by kernel_rfl) ?_ ?_ ?_
    · dsimp only
      exact Rem.refl _
    · dsimp only
      exact ⟨Nat.zero_le _, rfl⟩
    rintro ⟨i, ds⟩ hinv2
    dsimp only at hinv2
    have hds : ds.length = c.links.length := by rw [hinv2.2, cntPorts_len, hcs]
    have hpl := portsOf_len c (k : Int)
    have hw1 : IntKind.i64.wrap ((i : Int) - 1) = (i : Int) - 1 := Ev.wrap_i64 (by omega) (by omega)
    have hpin : i < (portsOf c (k : Int)).length → _ := fun h => ports_in (c := c) (part := (k : Int)) h
    show PW _ _ _ _ _
    refine PW.seq ?_
    refine PW.seq ?_
    refine PW.region ?_
    refine PL.rowK 4 [3, 4, 5, 6, 7, 30] 2 (s' := { tab := [⟨3, [], D.p 0 0 0 0⟩, ⟨4, [], D.h 1 c.links.length⟩, ⟨5, [], I (k : Int)⟩, ⟨6, [], sl' 4 Port.d (portsOf c (k : Int))⟩, ⟨7, [], I (i : Int)⟩, ⟨30, [], D.v (.bool (decide ((i : Int) < ((portsOf c (k : Int)).length : Int))))⟩], mem := [Obj.var 25 (Config.d c), Obj.row 3 1 c.links.length (fun j => [I (ds.getD j default)])], gl := (errG2 e) }) (p := True) (by kernel_rfl) (by trivial) ?_
    refine PL.nil ?_
    show PW _ _ _ _ _
    refine PW.cond (z := (decide ((i : Int) < ((portsOf c (k : Int)).length : Int)))) (by kernel_rfl) (fun hz2 => ?_) (fun hz2 => ?_)
    · skip
      try simp only [boolS, isB_true, isB_false] at hz2
      try have hil : i < (portsOf c (k : Int)).length := by omega
      try have hpi := hpin hil
      refine PW.skip ?_
      show PW _ _ _ _ _
      refine PW.seq ?_
      refine PW.block ?_
      refine PW.seq ?_
      refine PW.seq ?_
      refine PW.open [] (by kernel_rfl) ?_
      refine PO.takes [0, 1, 2, 3, 4, 5, 6, 7, 8, 9, 10, 11, 12, 13, 14, 15, 16, 17, 18, 19, 20, 21, 22, 23, 24, 25, 26, 27, 28, 29, 30, 31, 32, 33, 34, 35, 36, 37, 38, 39, 40, 41, 42, 43, 44, 45, 46, 47, 48, 49, 50] 51 [3, 4, 5, 6, 7, 83] 2 (n := 0) (s' := { tab := [⟨3, [], D.p 0 0 0 0⟩, ⟨4, [], D.h 1 c.links.length⟩, ⟨5, [], I (k : Int)⟩, ⟨6, [], sl' 4 Port.d (portsOf c (k : Int))⟩, ⟨7, [], I (i : Int)⟩, ⟨83, [], D.v (.bool ((((((decide ((i : Int) > (0 : Int))) && (decide ((((portsOf c (k : Int)).getD i default).node) ≤ (((portsOf c (k : Int)).getD ((IntKind.i64.wrap ((i : Int) - 1)).toNat) default).node)))) || (decide ((((portsOf c (k : Int)).getD i default).link) < (0 : Int)))) || (decide ((((portsOf c (k : Int)).getD i default).link) ≥ (c.links.length : Int)))) || (decide ((((portsOf c (k : Int)).getD i default).gate) < (0 : Int)))) || (decide ((((portsOf c (k : Int)).getD i default).gate) > (1 : Int)))))⟩], mem := [Obj.var 25 (Config.d c), Obj.row 3 1 c.links.length (fun j => [I (ds.getD j default)])], gl := (errG2 e) }) (p := (((decide ((i : Int) > (0 : Int))) = true ∧ True → 0 ≤ (i : Int) ∧ (i : Int) < ((portsOf c (k : Int)).length : Int))) ∧ (((decide ((i : Int) > (0 : Int))) = true ∧ True → 0 ≤ (IntKind.i64.wrap ((i : Int) - 1)) ∧ (IntKind.i64.wrap ((i : Int) - 1)) < ((portsOf c (k : Int)).length : Int))) ∧ ((((decide ((i : Int) > (0 : Int))) && (decide ((((portsOf c (k : Int)).getD i default).node) ≤ (((portsOf c (k : Int)).getD ((IntKind.i64.wrap ((i : Int) - 1)).toNat) default).node)))) = false ∧ True → 0 ≤ (i : Int) ∧ (i : Int) < ((portsOf c (k : Int)).length : Int))) ∧ (((((decide ((i : Int) > (0 : Int))) && (decide ((((portsOf c (k : Int)).getD i default).node) ≤ (((portsOf c (k : Int)).getD ((IntKind.i64.wrap ((i : Int) - 1)).toNat) default).node)))) || (decide ((((portsOf c (k : Int)).getD i default).link) < (0 : Int)))) = false ∧ True → 0 ≤ (i : Int) ∧ (i : Int) < ((portsOf c (k : Int)).length : Int))) ∧ ((((((decide ((i : Int) > (0 : Int))) && (decide ((((portsOf c (k : Int)).getD i default).node) ≤ (((portsOf c (k : Int)).getD ((IntKind.i64.wrap ((i : Int) - 1)).toNat) default).node)))) || (decide ((((portsOf c (k : Int)).getD i default).link) < (0 : Int)))) || (decide ((((portsOf c (k : Int)).getD i default).link) ≥ (c.links.length : Int)))) = false ∧ True → 0 ≤ (i : Int) ∧ (i : Int) < ((portsOf c (k : Int)).length : Int))) ∧ (((((((decide ((i : Int) > (0 : Int))) && (decide ((((portsOf c (k : Int)).getD i default).node) ≤ (((portsOf c (k : Int)).getD ((IntKind.i64.wrap ((i : Int) - 1)).toNat) default).node)))) || (decide ((((portsOf c (k : Int)).getD i default).link) < (0 : Int)))) || (decide ((((portsOf c (k : Int)).getD i default).link) ≥ (c.links.length : Int)))) || (decide ((((portsOf c (k : Int)).getD i default).gate) < (0 : Int)))) = false ∧ True → 0 ≤ (i : Int) ∧ (i : Int) < ((portsOf c (k : Int)).length : Int)))) (by kernel_rfl) (fun _ _ h => h) (by kernel_rfl) (by kernel_rfl) (by kernel_rfl) (by kernel_rfl) (by kernel_rfl) (by kernel_rfl) (by kernel_rfl) (by kernel_rfl) (by ((repeat' (first | intro _ | refine And.intro ?_ ?_)) <;> first | omega | trivial | assumption | (rename_i hgd; simp only [Bool.and_eq_true, decide_eq_true_eq, and_true] at hgd; omega))) ?_
      refine PO.done (by kernel_rfl) ?_
      show PW _ _ _ _ _
      refine PW.cond (z := ((((((decide ((i : Int) > (0 : Int))) && (decide ((((portsOf c (k : Int)).getD i default).node) ≤ (((portsOf c (k : Int)).getD ((IntKind.i64.wrap ((i : Int) - 1)).toNat) default).node)))) || (decide ((((portsOf c (k : Int)).getD i default).link) < (0 : Int)))) || (decide ((((portsOf c (k : Int)).getD i default).link) ≥ (c.links.length : Int)))) || (decide ((((portsOf c (k : Int)).getD i default).gate) < (0 : Int)))) || (decide ((((portsOf c (k : Int)).getD i default).gate) > (1 : Int))))) (by kernel_rfl) (fun hz3 => ?_) (fun hz3 => ?_)
      · skip
        try simp only [boolS, isB_true, isB_false] at hz3
        try have hil : i < (portsOf c (k : Int)).length := by omega
        try have hpi := hpin hil
        refine PW.seq ?_
        refine PW.region ?_
        refine PL.rowK 1 [2] 2 (s' := { tab := [⟨2, [], D.v (.bool false)⟩], mem := [Obj.var 25 (Config.d c), Obj.row 3 1 c.links.length (fun j => [I (ds.getD j default)])], gl := (errG2 e) }) (p := True) (by kernel_rfl) (by trivial) ?_
        refine PL.nil ?_
        show PW _ _ _ _ _
        refine PW.ret ?_
        refine retQ_ret (d := D.v (.bool false)) (ps := []) (by kernel_rfl) trivial ?_
        exfalso
        have q1 := ports_in hil
        have q2 : 0 < i → ((portsOf c (k : Int)).getD (i - 1) default).node < ((portsOf c (k : Int)).getD i default).node := fun h => ports_rise h hil
        have q3 : 0 < i → (IntKind.i64.wrap ((i : Int) - 1)).toNat = i - 1 := fun h => by rw [hw1]; omega
        rcases hz3 with h | h
        · revert h
          grind
        · omega
      · skip
        try simp only [boolS, isB_true, isB_false] at hz3
        try have hil : i < (portsOf c (k : Int)).length := by omega
        try have hpi := hpin hil
        refine PW.skip ?_
        show PW _ _ _ _ _
        refine PW.open [1] (by kernel_rfl) ?_
        refine PO.takes [0, 1, 2, 3, 4, 5, 6, 7, 8, 9, 10, 11, 12] 17 [3, 4, 5, 6, 7, 84, 89, 96] 2 (n := 4) (s' := { tab := [⟨3, [], D.p 0 0 0 0⟩, ⟨4, [], D.h 1 c.links.length⟩, ⟨5, [], I (k : Int)⟩, ⟨6, [], sl' 4 Port.d (portsOf c (k : Int))⟩, ⟨7, [], I (i : Int)⟩, ⟨84, [], D.h 1 c.links.length⟩, ⟨89, [], I (((portsOf c (k : Int)).getD i default).link)⟩, ⟨96, [], D.p 1 1 ((((portsOf c (k : Int)).getD i default).link).toNat) 0⟩], mem := [Obj.var 25 (Config.d c), Obj.row 3 1 c.links.length (fun j => [I (ds.getD j default)])], gl := (errG2 e) }) (p := (0 ≤ (i : Int) ∧ (i : Int) < ((portsOf c (k : Int)).length : Int)) ∧ (0 ≤ (i : Int) ∧ (i : Int) < ((portsOf c (k : Int)).length : Int)) ∧ (0 ≤ (((portsOf c (k : Int)).getD i default).link) ∧ (((portsOf c (k : Int)).getD i default).link) < (c.links.length : Int))) (by kernel_rfl) (fun _ _ h => h) (by kernel_rfl) (by kernel_rfl) (by kernel_rfl) (by kernel_rfl) (by kernel_rfl) (by kernel_rfl) (by kernel_rfl) (by kernel_rfl) (by ((repeat' (first | intro _ | refine And.intro ?_ ?_)) <;> first | omega | trivial | assumption | (rename_i hgd; simp only [Bool.and_eq_true, decide_eq_true_eq, and_true] at hgd; omega))) ?_
        refine PO.one (n := 3) 13 (by kernel_rfl) ?_
        refine PO1.val [3, 4, 5, 6, 7, 84, 89, 97] 2 (s' := { tab := [⟨3, [], D.p 0 0 0 0⟩, ⟨4, [], D.h 1 c.links.length⟩, ⟨5, [], I (k : Int)⟩, ⟨6, [], sl' 4 Port.d (portsOf c (k : Int))⟩, ⟨7, [], I (i : Int)⟩, ⟨84, [], D.h 1 c.links.length⟩, ⟨89, [], I (((portsOf c (k : Int)).getD i default).link)⟩, ⟨97, [], I (ds.getD ((((portsOf c (k : Int)).getD i default).link).toNat) default)⟩], mem := [Obj.var 25 (Config.d c), Obj.row 3 1 c.links.length (fun j => [I (ds.getD j default)])], gl := (errG2 e) }) (p := ((((portsOf c (k : Int)).getD i default).link).toNat < c.links.length)) rfl (by kernel_rfl) (by kernel_rfl) (by kernel_rfl) (by kernel_rfl) (by kernel_rfl) (by kernel_rfl) (by kernel_rfl) (by kernel_rfl) (by ((repeat' (first | intro _ | refine And.intro ?_ ?_)) <;> first | omega | trivial | assumption | (rename_i hgd; simp only [Bool.and_eq_true, decide_eq_true_eq, and_true] at hgd; omega))) ?_
        refine PO.takes [14, 15] 3 [3, 4, 5, 6, 7, 98, 99] 2 (n := 1) (s' := { tab := [⟨3, [], D.p 0 0 0 0⟩, ⟨4, [], D.h 1 c.links.length⟩, ⟨5, [], I (k : Int)⟩, ⟨6, [], sl' 4 Port.d (portsOf c (k : Int))⟩, ⟨7, [], I (i : Int)⟩, ⟨98, [], I (IntKind.i64.wrap ((ds.getD ((((portsOf c (k : Int)).getD i default).link).toNat) default) + 1))⟩, ⟨99, [], D.p 1 1 ((((portsOf c (k : Int)).getD i default).link).toNat) 0⟩], mem := [Obj.var 25 (Config.d c), Obj.row 3 1 c.links.length (fun j => [I (ds.getD j default)])], gl := (errG2 e) }) (p := (0 ≤ (((portsOf c (k : Int)).getD i default).link) ∧ (((portsOf c (k : Int)).getD i default).link) < (c.links.length : Int))) (by kernel_rfl) (fun _ _ h => h) (by kernel_rfl) (by kernel_rfl) (by kernel_rfl) (by kernel_rfl) (by kernel_rfl) (by kernel_rfl) (by kernel_rfl) (by kernel_rfl) (by ((repeat' (first | intro _ | refine And.intro ?_ ?_)) <;> first | omega | trivial | assumption | (rename_i hgd; simp only [Bool.and_eq_true, decide_eq_true_eq, and_true] at hgd; omega))) ?_
        refine PO.one (n := 0) 16 (by kernel_rfl) ?_
        refine PO1.mem [3, 4, 5, 6, 7] 2 (s' := { tab := [⟨3, [], D.p 0 0 0 0⟩, ⟨4, [], D.h 1 c.links.length⟩, ⟨5, [], I (k : Int)⟩, ⟨6, [], sl' 4 Port.d (portsOf c (k : Int))⟩, ⟨7, [], I (i : Int)⟩], mem := [Obj.var 25 (Config.d c), Obj.row 3 1 c.links.length (fun j => if j = (((portsOf c (k : Int)).getD i default).link).toNat then [I (IntKind.i64.wrap ((ds.getD ((((portsOf c (k : Int)).getD i default).link).toNat) default) + 1))] else (fun j => [I (ds.getD j default)]) j)], gl := (errG2 e) }) (p := ((((portsOf c (k : Int)).getD i default).link).toNat < c.links.length)) rfl (by kernel_rfl) (by kernel_rfl) (by kernel_rfl) (by kernel_rfl) (by kernel_rfl) (by kernel_rfl) (by kernel_rfl) (by kernel_rfl) (by kernel_rfl) (by ((repeat' (first | intro _ | refine And.intro ?_ ?_)) <;> first | omega | trivial | assumption | (rename_i hgd; simp only [Bool.and_eq_true, decide_eq_true_eq, and_true] at hgd; omega))) ?_
        refine PO.rem (s' := { tab := [⟨3, [], D.p 0 0 0 0⟩, ⟨4, [], D.h 1 c.links.length⟩, ⟨5, [], I (k : Int)⟩, ⟨6, [], sl' 4 Port.d (portsOf c (k : Int))⟩, ⟨7, [], I (i : Int)⟩], mem := [Obj.var 25 (Config.d c), Obj.row 3 1 c.links.length (fun j => [I ((ds.set ((((portsOf c (k : Int)).getD i default).link).toNat) (IntKind.i64.wrap ((ds.getD ((((portsOf c (k : Int)).getD i default).link).toNat) default) + 1))).getD j default)])], gl := (errG2 e) }) ⟨rfl, rfl, rfl, (.same (.row rfl (fun j hj => by (try dsimp only); rw [getD_set (l := ds) (i := (((portsOf c (k : Int)).getD i default).link).toNat) (v := IntKind.i64.wrap ((ds.getD ((((portsOf c (k : Int)).getD i default).link).toNat) default) + 1)) (hi := (by (try simp only [List.length_set, List.length_replicate, List.length_append, List.length_cons, List.length_nil]) <;> omega))]; split <;> rfl) .nil))⟩ ?_
        refine PO.done (by kernel_rfl) ?_
        show PW _ _ _ _ _
        refine PW.region ?_
        refine PL.rowK 3 [3, 4, 5, 6, 7] 2 (s' := { tab := [⟨3, [], D.p 0 0 0 0⟩, ⟨4, [], D.h 1 c.links.length⟩, ⟨5, [], I (k : Int)⟩, ⟨6, [], sl' 4 Port.d (portsOf c (k : Int))⟩, ⟨7, [], I (IntKind.i64.wrap ((i : Int) + 1))⟩], mem := [Obj.var 25 (Config.d c), Obj.row 3 1 c.links.length (fun j => [I ((ds.set ((((portsOf c (k : Int)).getD i default).link).toNat) (IntKind.i64.wrap ((ds.getD ((((portsOf c (k : Int)).getD i default).link).toNat) default) + 1))).getD j default)])], gl := (errG2 e) }) (p := True) (by kernel_rfl) (by trivial) ?_
        refine PL.nil ?_
        refine BackR.of (s1 := { tab := [⟨3, [], D.p 0 0 0 0⟩, ⟨4, [], D.h 1 c.links.length⟩, ⟨5, [], I (k : Int)⟩, ⟨6, [], sl' 4 Port.d (portsOf c (k : Int))⟩, ⟨7, [], I (IntKind.i64.wrap ((i : Int) + 1))⟩], mem := [Obj.var 25 (Config.d c), Obj.row 3 1 c.links.length (fun j => [I ((ds.set ((((portsOf c (k : Int)).getD i default).link).toNat) (IntKind.i64.wrap ((ds.getD ((((portsOf c (k : Int)).getD i default).link).toNat) default) + 1))).getD j default)])], gl := (errG2 e) }) (i + 1, ds.set ((((portsOf c (k : Int)).getD i default).link).toNat) (IntKind.i64.wrap ((ds.getD ((((portsOf c (k : Int)).getD i default).link).toNat) default) + 1))) (by kernel_rfl) (by kernel_rfl) ?_ ?_ ?_
        · dsimp only
          rw [wrap1 i (by omega)]
          exact Rem.refl _
        · dsimp only
          exact ⟨by omega, by rw [cntPorts, ← hinv2.2]; rfl⟩
        · dsimp only
          ((repeat' (first | intro _ | refine And.intro ?_ ?_)) <;> first | omega | trivial | assumption | (rename_i hgd; simp only [Bool.and_eq_true, decide_eq_true_eq, and_true] at hgd; omega))
    · skip
      try simp only [boolS, isB_true, isB_false] at hz2
      try have hil : i < (portsOf c (k : Int)).length := by omega
      try have hpi := hpin hil
      refine PW.exit ?_
      show PW _ _ _ _ _
      refine PW.region ?_
      refine PL.rowK 3 [3, 4, 5] 2 (s' := { tab := [⟨3, [], D.p 0 0 0 0⟩, ⟨4, [], D.h 1 c.links.length⟩, ⟨5, [], I (IntKind.i64.wrap ((k : Int) + 1))⟩], mem := [Obj.var 25 (Config.d c), Obj.row 3 1 c.links.length (fun j => [I (ds.getD j default)])], gl := (errG2 e) }) (p := True) (by kernel_rfl) (by trivial) ?_
      refine PL.nil ?_
      refine BackR.of (s1 := { tab := [⟨3, [], D.p 0 0 0 0⟩, ⟨4, [], D.h 1 c.links.length⟩, ⟨5, [], I (IntKind.i64.wrap ((k : Int) + 1))⟩], mem := [Obj.var 25 (Config.d c), Obj.row 3 1 c.links.length (fun j => [I (ds.getD j default)])], gl := (errG2 e) }) (k + 1, ds) (by kernel_rfl) (by kernel_rfl) ?_ ?_ ?_
      · dsimp only
        rw [wrap1 k (by omega)]
        exact Rem.refl _
      · dsimp only
        refine ⟨by omega, ?_⟩
        rw [cntAll, ← hinv.2, hinv2.2, show i = (portsOf c (k : Int)).length by omega]
      · dsimp only
        ((repeat' (first | intro _ | refine And.intro ?_ ?_)) <;> first | omega | trivial | assumption | (rename_i hgd; simp only [Bool.and_eq_true, decide_eq_true_eq, and_true] at hgd; omega))
  · skip
    try simp only [boolS, isB_true, isB_false] at hz1
    try have hil : i < (portsOf c (k : Int)).length := by omega
    try have hpi := hpin hil
    refine PW.exit ?_
    show PW _ _ _ _ _
    refine PW.seq ?_
    refine PW.seq ?_
    refine PW.region ?_
    refine PL.rowK 1 [4, 8] 2 (s' := { tab := [⟨4, [], D.h 1 c.links.length⟩, ⟨8, [], I 0⟩], mem := [Obj.var 25 (Config.d c), Obj.row 3 1 c.links.length (fun j => [I (cs.getD j default)])], gl := (errG2 e) }) (p := True) (by kernel_rfl) (by trivial) ?_
    refine PL.nil ?_
    show PW _ _ _ _ _
    refine PW.block ?_
    refine PW.loopR (α := Nat) (fun u => { tab := [⟨4, [], D.h 1 c.links.length⟩, ⟨8, [], I (u : Int)⟩], mem := [Obj.var 25 (Config.d c), Obj.row 3 1 c.links.length (fun j => [I (cs.getD j default)])], gl := (errG2 e) }) (fun u => u ≤ c.links.length) (fun u => c.links.length - u) [4, 8] 2 (0) (s1 := { tab := [⟨4, [], D.h 1 c.links.length⟩, ⟨8, [], I 0⟩], mem := [Obj.var 25 (Config.d c), Obj.row 3 1 c.links.length (fun j => [I (cs.getD j default)])], gl := (errG2 e) }) (by kernel_rfl) (by kernel_rfl) ?_ ?_ ?_
    · exact Rem.refl _
    · exact Nat.zero_le _
    rintro u hinv3
    show PW _ _ _ _ _
    refine PW.seq ?_
    refine PW.seq ?_
    refine PW.region ?_
    refine PL.rowK 4 [4, 8, 103] 2 (s' := { tab := [⟨4, [], D.h 1 c.links.length⟩, ⟨8, [], I (u : Int)⟩, ⟨103, [], D.v (.bool (decide ((u : Int) < (c.links.length : Int))))⟩], mem := [Obj.var 25 (Config.d c), Obj.row 3 1 c.links.length (fun j => [I (cs.getD j default)])], gl := (errG2 e) }) (p := True) (by kernel_rfl) (by trivial) ?_
    refine PL.nil ?_
    show PW _ _ _ _ _
    refine PW.cond (z := (decide ((u : Int) < (c.links.length : Int)))) (by kernel_rfl) (fun hz4 => ?_) (fun hz4 => ?_)
    · skip
      try simp only [boolS, isB_true, isB_false] at hz4
      try have hil : i < (portsOf c (k : Int)).length := by omega
      try have hpi := hpin hil
      refine PW.skip ?_
      show PW _ _ _ _ _
      refine PW.seq ?_
      refine PW.block ?_
      refine PW.seq ?_
      refine PW.region ?_
      refine PL.rowK 5 [4, 8, 110] 2 (s' := { tab := [⟨4, [], D.h 1 c.links.length⟩, ⟨8, [], I (u : Int)⟩, ⟨110, [], D.v (.bool ((cs.getD u default) != (4 : Int)))⟩], mem := [Obj.var 25 (Config.d c), Obj.row 3 1 c.links.length (fun j => [I (cs.getD j default)])], gl := (errG2 e) }) (p := (0 ≤ (u : Int) ∧ (u : Int) < (c.links.length : Int)) ∧ (u < c.links.length)) (by kernel_rfl) (by ((repeat' (first | intro _ | refine And.intro ?_ ?_)) <;> first | omega | trivial | assumption | (rename_i hgd; simp only [Bool.and_eq_true, decide_eq_true_eq, and_true] at hgd; omega))) ?_
      refine PL.nil ?_
      show PW _ _ _ _ _
      refine PW.cond (z := ((cs.getD u default) != (4 : Int))) (by kernel_rfl) (fun hz5 => ?_) (fun hz5 => ?_)
      · skip
        try simp only [boolS, isB_true, isB_false] at hz5
        try have hil : i < (portsOf c (k : Int)).length := by omega
        try have hpi := hpin hil
        refine PW.seq ?_
        refine PW.region ?_
        refine PL.rowK 1 [2] 2 (s' := { tab := [⟨2, [], D.v (.bool false)⟩], mem := [Obj.var 25 (Config.d c), Obj.row 3 1 c.links.length (fun j => [I (cs.getD j default)])], gl := (errG2 e) }) (p := True) (by kernel_rfl) (by trivial) ?_
        refine PL.nil ?_
        show PW _ _ _ _ _
        refine PW.ret ?_
        refine retQ_ret (d := D.v (.bool false)) (ps := []) (by kernel_rfl) trivial ?_
        exfalso
        have hk : cs = List.replicate c.links.length 4 := by rw [hinv.2, show k = c.parts.length by omega]; exact hAll
        refine hz5 ?_
        rw [hk]
        exact getD_rep _ _ _ _ (by omega)
      · skip
        try simp only [boolS, isB_true, isB_false] at hz5
        try have hil : i < (portsOf c (k : Int)).length := by omega
        try have hpi := hpin hil
        refine PW.skip ?_
        show PW _ _ _ _ _
        refine PW.region ?_
        refine PL.rowK 3 [4, 8] 2 (s' := { tab := [⟨4, [], D.h 1 c.links.length⟩, ⟨8, [], I (IntKind.i64.wrap ((u : Int) + 1))⟩], mem := [Obj.var 25 (Config.d c), Obj.row 3 1 c.links.length (fun j => [I (cs.getD j default)])], gl := (errG2 e) }) (p := True) (by kernel_rfl) (by trivial) ?_
        refine PL.nil ?_
        refine BackR.of (s1 := { tab := [⟨4, [], D.h 1 c.links.length⟩, ⟨8, [], I (IntKind.i64.wrap ((u : Int) + 1))⟩], mem := [Obj.var 25 (Config.d c), Obj.row 3 1 c.links.length (fun j => [I (cs.getD j default)])], gl := (errG2 e) }) (u + 1) (by kernel_rfl) (by kernel_rfl) ?_ ?_ ?_
        · rw [wrap1 u (by omega)]
          exact Rem.refl _
        · omega
        · ((repeat' (first | intro _ | refine And.intro ?_ ?_)) <;> first | omega | trivial | assumption | (rename_i hgd; simp only [Bool.and_eq_true, decide_eq_true_eq, and_true] at hgd; omega))
    · skip
      try simp only [boolS, isB_true, isB_false] at hz4
      try have hil : i < (portsOf c (k : Int)).length := by omega
      try have hpi := hpin hil
      refine PW.exit ?_
      show PW _ _ _ _ _
      refine PW.seq ?_
      refine PW.region ?_
      refine PL.rowK 1 [2] 2 (s' := { tab := [⟨2, [], D.v (.bool true)⟩], mem := [Obj.var 25 (Config.d c), Obj.row 3 1 c.links.length (fun j => [I (cs.getD j default)])], gl := (errG2 e) }) (p := True) (by kernel_rfl) (by trivial) ?_
      refine PL.nil ?_
      show PW _ _ _ _ _
      refine PW.ret ?_
      refine retQ_ret (d := D.v (.bool true)) (ps := []) (by kernel_rfl) trivial ?_
      rfl
end Go.Proofs.YtlcjcdgmiaakjaaDoor.Pl
