/- Package plan's Port and Far. -/
import Derived.Test.YtlcjcdgmiaakjaaDoorPlPortB
import Derived.Test.YtlcjcdgmiaakjaaDoorPlLaw
import Derived.Test.YtlcjcdgmiaakjaaDoorHpTwo
namespace Go.Proofs.YtlcjcdgmiaakjaaDoor.Pl
open Go.RowKit Go.Proofs.YtlcjcdgmiaakjaaDoor.Sm Go.Proofs.YtlcjcdgmiaakjaaDoor.Dp
set_option maxHeartbeats 4000000
set_option maxRecDepth 100000
set_option linter.unusedVariables false
set_option linter.unusedSimpArgs false
/-- the port at a node of a part. -/
def portQ (c : Config) (part node : Int) : Option Port := if (checkP c).1 = 0 ∧ isB part c.parts.length = true then portP c.links part node c.links.length else none
theorem getD_mem {l : List Port} {i : Nat} (h : i < l.length) : l.getD i default ∈ l := by
  rw [List.getD_eq_getElem?_getD, List.getElem?_eq_getElem h]; exact List.getElem_mem h
theorem mem_getD {l : List Port} {p : Port} (h : p ∈ l) : ∃ i, i < l.length ∧ l.getD i default = p := by
  obtain ⟨i, hi, e⟩ := List.mem_iff_getElem.1 h
  exact ⟨i, hi, by rw [List.getD_eq_getElem?_getD, List.getElem?_eq_getElem hi]; exact e⟩
theorem mem_portsOf (c : Config) (part : Int) (p : Port) : p ∈ portsOf c part ↔ portQ c part p.node = some p := by
  unfold portQ
  by_cases hc : (checkP c).1 = 0
  · rw [← (portsOf_perm hc part).mem_iff]
    have hr := raw_in (good_of hc) (part := part) c.links.length (Nat.le_refl _)
    by_cases hb : isB part c.parts.length = true
    · rw [if_pos ⟨hc, hb⟩]
      constructor
      · intro hm
        cases hx : portP c.links part p.node c.links.length with
        | none => exact absurd rfl (portP_none hx p hm)
        | some q =>
          have := portP_mem hx
          rw [inj_of hr.2 q this.1 p hm this.2]
      · exact fun h => (portP_mem h).1
    · rw [if_neg (fun h => hb h.2)]
      constructor
      · intro hm
        have := hr.1 p hm
        rw [isB_true] at hb
        exact absurd ⟨this.1, this.2.1⟩ hb
      · intro h; cases h
  · rw [if_neg (fun h => hc h.1)]
    unfold portsOf
    rw [if_neg (fun h => hc h.1)]
    simp
theorem portQ_node {c : Config} {part node : Int} {p : Port} (h : portQ c part node = some p) : p.node = node := by
  unfold portQ at h
  split at h
  · exact (portP_mem h).2
  · cases h
theorem portQ_yes {c : Config} {part node : Int} {i : Nat} (hi : i < (portsOf c part).length) (he : ((portsOf c part).getD i default).node = node) : portQ c part node = some ((portsOf c part).getD i default) := by
  rw [← he]; exact (mem_portsOf c part _).1 (getD_mem hi)
theorem portQ_no {c : Config} {part node : Int} (h : ∀ k, k < (portsOf c part).length → ((portsOf c part).getD k default).node ≠ node) : portQ c part node = none := by
  cases hx : portQ c part node with
  | none => rfl
  | some p =>
    have e := portQ_node hx
    subst e
    obtain ⟨i, hi, e2⟩ := mem_getD ((mem_portsOf c part p).2 hx)
    exact absurd (by rw [e2]) (h i hi)
theorem portAt_form {l : Link} {i : Nat} {part node : Int} {p : Port} (h : portAt l i part node = some p) : p.link = (i : Int) ∧ (p.gate = 0 ∨ p.gate = 1) ∧ (p.side = 0 ∨ p.side = 1) := by
  unfold portAt at h
  grind
theorem portP_form {ls : List Link} {part node : Int} : ∀ {n : Nat} {p : Port}, portP ls part node n = some p → (∃ i : Nat, i < n ∧ p.link = (i : Int)) ∧ (p.gate = 0 ∨ p.gate = 1) ∧ (p.side = 0 ∨ p.side = 1)
  | 0, p, h => by cases h
  | n + 1, p, h => by
    unfold portP at h
    split at h
    · rename_i q hq
      injection h with h
      subst h
      obtain ⟨⟨i, h1, h2⟩, h3⟩ := portP_form hq
      exact ⟨⟨i, by omega, h2⟩, h3⟩
    · have := portAt_form h
      exact ⟨⟨n, by omega, this.1⟩, this.2⟩
/-- .. it stands so. -/
theorem portQ_form {c : Config} {part node : Int} {p : Port} (h : portQ c part node = some p) : ∃ i : Nat, i < c.links.length ∧ ∃ g s : Int, p = ⟨node, i, g, s⟩ ∧ (g = 0 ∨ g = 1) ∧ (s = 0 ∨ s = 1) := by
  have hn := portQ_node h
  unfold portQ at h
  split at h
  · obtain ⟨⟨i, h1, h2⟩, h3, h4⟩ := portP_form h
    obtain ⟨a, b, g, s⟩ := p
    dsimp only at *
    subst hn h2
    exact ⟨i, h1, g, s, rfl, h3, h4⟩
  · cases h
/-- the other side. -/
def farQ (c : Config) (part node : Int) : Option (Int × Int) := match portQ c part node with
  | none => none
  | some p => some (if p.side = 0 then ((c.links.getD p.link.toNat default).b, if p.gate = 0 then (c.links.getD p.link.toNat default).pb0 else (c.links.getD p.link.toNat default).pb1) else ((c.links.getD p.link.toNat default).a, if p.gate = 0 then (c.links.getD p.link.toNat default).pa0 else (c.links.getD p.link.toNat default).pa1))
def farD (o : Option (Int × Int)) : D := D.t [I (o.getD (0, 0)).1, I (o.getD (0, 0)).2, D.v (.bool o.isSome)]
theorem plan_Port_pc (e : Nat → Addr) (c : Config) (part node : Int) (hp0 : c.parts.length < 1000000) (hl0 : c.links.length < 1000000) : PC Tryd.prog (errG2 e) 17 [D.r (Config.d c), I part, I node] (· = portD (portQ c part node)) := by
  refine PC.of (N := 25) Tryd.func17 rfl rfl (Nat.le_of_ble_eq_true rfl) ?_
  refine PW.seq ?_
  refine PW.region ?_
  refine PL.rowK 3 [1, 2, 3, 6] 2 (s' := { tab := [⟨1, [], I part⟩, ⟨2, [], I node⟩, ⟨3, [], D.p 0 0 0 0⟩, ⟨6, [], D.p 1 0 0 0⟩], mem := [Obj.var 25 (Config.d c), Obj.var 35 [I 0, I 0, I 0, I 0]], gl := (errG2 e) }) (p := True) (by kernel_rfl) (by trivial) ?_
  refine PL.nil ?_
  show PW _ _ _ _ _
  refine PW.seq ?_
  refine PW.seq ?_
  refine PW.region ?_
  refine PL.rowK 2 [2, 6, 10, 11] 2 (s' := { tab := [⟨2, [], I node⟩, ⟨6, [], D.p 1 0 0 0⟩, ⟨10, [], D.r (Config.d c)⟩, ⟨11, [], I part⟩], mem := [Obj.var 25 (Config.d c), Obj.var 35 [I 0, I 0, I 0, I 0]], gl := (errG2 e) }) (p := True) (by kernel_rfl) (by trivial) ?_
  refine PL.gcall (A := []) (f := 22) (ds := [D.r (Config.d c), I part]) (by kernel_rfl) (by kernel_rfl) (by kernel_rfl) (by kernel_rfl) (by kernel_rfl) rfl (sl' 4 Port.d (portsOf c part)) (fun _ => (plan_Ports_pc0 e c part (by omega) (by omega)).list) ?_
  refine PL.rowK 2 [2, 6, 12, 13, 14] 2 (s' := { tab := [⟨2, [], I node⟩, ⟨6, [], D.p 1 0 0 0⟩, ⟨12, [], sl' 4 Port.d (portsOf c part)⟩, ⟨13, [], I ((portsOf c part).length : Int)⟩, ⟨14, [], I 0⟩], mem := [Obj.var 25 (Config.d c), Obj.var 35 [I 0, I 0, I 0, I 0]], gl := (errG2 e) }) (p := True) (by kernel_rfl) (by trivial) ?_
  refine PL.nil ?_
  show PW _ _ _ _ _
  refine PW.block ?_
  refine PW.loopR (α := Nat) (fun i => { tab := [⟨2, [], I node⟩, ⟨6, [], D.p 1 0 0 0⟩, ⟨12, [], sl' 4 Port.d (portsOf c part)⟩, ⟨13, [], I ((portsOf c part).length : Int)⟩, ⟨14, [], I (i : Int)⟩], mem := [Obj.var 25 (Config.d c), Obj.var 35 [I 0, I 0, I 0, I 0]], gl := (errG2 e) }) (fun i => i ≤ (portsOf c part).length ∧ ∀ k, k < i → ((portsOf c part).getD k default).node ≠ node) (fun i => (portsOf c part).length - i) [2, 6, 12, 13, 14] 2 (0) (s1 := { tab := [⟨2, [], I node⟩, ⟨6, [], D.p 1 0 0 0⟩, ⟨12, [], sl' 4 Port.d (portsOf c part)⟩, ⟨13, [], I ((portsOf c part).length : Int)⟩, ⟨14, [], I 0⟩], mem := [Obj.var 25 (Config.d c), Obj.var 35 [I 0, I 0, I 0, I 0]], gl := (errG2 e) }) (by kernel_rfl) (by kernel_rfl) ?_ ?_ ?_
  · exact Rem.refl _
  · exact ⟨Nat.zero_le _, fun k hk => absurd hk (Nat.not_lt_zero _)⟩
  rintro i hinv
  have hlen := portsOf_len c part
  show PW _ _ _ _ _
  refine PW.seq ?_
  refine PW.region ?_
  refine PL.rowK 1 [2, 6, 12, 13, 14, 15] 2 (s' := { tab := [⟨2, [], I node⟩, ⟨6, [], D.p 1 0 0 0⟩, ⟨12, [], sl' 4 Port.d (portsOf c part)⟩, ⟨13, [], I ((portsOf c part).length : Int)⟩, ⟨14, [], I (i : Int)⟩, ⟨15, [], D.v (.bool (decide ((i : Int) < ((portsOf c part).length : Int))))⟩], mem := [Obj.var 25 (Config.d c), Obj.var 35 [I 0, I 0, I 0, I 0]], gl := (errG2 e) }) (p := True) (by kernel_rfl) (by trivial) ?_
  refine PL.nil ?_
  show PW _ _ _ _ _
  refine PW.seq ?_
  refine PW.cond (z := (decide ((i : Int) < ((portsOf c part).length : Int)))) (by kernel_rfl) (fun hz0 => ?_) (fun hz0 => ?_)
  · skip
    try simp only [boolS, isB_true, isB_false] at hz0
    refine PW.skip ?_
    show PW _ _ _ _ _
    refine PW.seq ?_
    refine PW.block ?_
    refine PW.seq ?_
    refine PW.region ?_
    refine PL.rowK 4 [2, 6, 9, 12, 13, 14] 3 (s' := { tab := [⟨2, [], I node⟩, ⟨6, [], D.p 1 0 0 0⟩, ⟨9, [], D.p 2 0 0 0⟩, ⟨12, [], sl' 4 Port.d (portsOf c part)⟩, ⟨13, [], I ((portsOf c part).length : Int)⟩, ⟨14, [], I (i : Int)⟩], mem := [Obj.var 25 (Config.d c), Obj.var 35 [I 0, I 0, I 0, I 0], Obj.var 35 [I (((portsOf c part).getD i default).node), I (((portsOf c part).getD i default).link), I (((portsOf c part).getD i default).gate), I (((portsOf c part).getD i default).side)]], gl := (errG2 e) }) (p := (0 ≤ (i : Int) ∧ (i : Int) < ((portsOf c part).length : Int))) (by kernel_rfl) (by ((repeat' (first | intro _ | refine And.intro ?_ ?_)) <;> first | omega | trivial | assumption | (rename_i hgd; simp only [Bool.and_eq_true, decide_eq_true_eq, and_true] at hgd; omega))) ?_
    refine PL.nil ?_
    show PW _ _ _ _ _
    refine PW.seq ?_
    refine PW.region ?_
    refine PL.rowK 4 [2, 6, 9, 12, 13, 14, 21] 3 (s' := { tab := [⟨2, [], I node⟩, ⟨6, [], D.p 1 0 0 0⟩, ⟨9, [], D.p 2 0 0 0⟩, ⟨12, [], sl' 4 Port.d (portsOf c part)⟩, ⟨13, [], I ((portsOf c part).length : Int)⟩, ⟨14, [], I (i : Int)⟩, ⟨21, [], D.v (.bool ((((portsOf c part).getD i default).node) == node))⟩], mem := [Obj.var 25 (Config.d c), Obj.var 35 [I 0, I 0, I 0, I 0], Obj.var 35 [I (((portsOf c part).getD i default).node), I (((portsOf c part).getD i default).link), I (((portsOf c part).getD i default).gate), I (((portsOf c part).getD i default).side)]], gl := (errG2 e) }) (p := True) (by kernel_rfl) (by trivial) ?_
    refine PL.nil ?_
    show PW _ _ _ _ _
    refine PW.cond (z := ((((portsOf c part).getD i default).node) == node)) (by kernel_rfl) (fun hz1 => ?_) (fun hz1 => ?_)
    · skip
      try simp only [boolS, isB_true, isB_false] at hz1
      refine PW.seq ?_
      refine PW.region ?_
      refine PL.rowK 3 [6, 7] 3 (s' := { tab := [⟨6, [], D.p 1 0 0 0⟩, ⟨7, [], D.v (.bool true)⟩], mem := [Obj.var 25 (Config.d c), Obj.var 35 [I (((portsOf c part).getD i default).node), I (((portsOf c part).getD i default).link), I (((portsOf c part).getD i default).gate), I (((portsOf c part).getD i default).side)], Obj.var 35 [I (((portsOf c part).getD i default).node), I (((portsOf c part).getD i default).link), I (((portsOf c part).getD i default).gate), I (((portsOf c part).getD i default).side)]], gl := (errG2 e) }) (p := True) (by kernel_rfl) (by trivial) ?_
      refine PL.nil ?_
      show PW _ _ _ _ _
      refine PW.ret ?_
      refine retQ_ret (d := D.t [D.r [I (((portsOf c part).getD i default).node), I (((portsOf c part).getD i default).link), I (((portsOf c part).getD i default).gate), I (((portsOf c part).getD i default).side)], D.v (.bool true)]) (ps := []) (by kernel_rfl) trivial ?_
      rw [portQ_yes (c := c) (i := i) (by omega) (by assumption)]
      rfl
    · skip
      try simp only [boolS, isB_true, isB_false] at hz1
      refine PW.skip ?_
      show PW _ _ _ _ _
      refine PW.region ?_
      refine PL.rowK 2 [2, 6, 12, 13, 14] 3 (s' := { tab := [⟨2, [], I node⟩, ⟨6, [], D.p 1 0 0 0⟩, ⟨12, [], sl' 4 Port.d (portsOf c part)⟩, ⟨13, [], I ((portsOf c part).length : Int)⟩, ⟨14, [], I (IntKind.i64.wrap ((i : Int) + 1))⟩], mem := [Obj.var 25 (Config.d c), Obj.var 35 [I 0, I 0, I 0, I 0], Obj.var 35 [I (((portsOf c part).getD i default).node), I (((portsOf c part).getD i default).link), I (((portsOf c part).getD i default).gate), I (((portsOf c part).getD i default).side)]], gl := (errG2 e) }) (p := True) (by kernel_rfl) (by trivial) ?_
      refine PL.nil ?_
      refine BackR.of (s1 := { tab := [⟨2, [], I node⟩, ⟨6, [], D.p 1 0 0 0⟩, ⟨12, [], sl' 4 Port.d (portsOf c part)⟩, ⟨13, [], I ((portsOf c part).length : Int)⟩, ⟨14, [], I (IntKind.i64.wrap ((i : Int) + 1))⟩], mem := [Obj.var 25 (Config.d c), Obj.var 35 [I 0, I 0, I 0, I 0]], gl := (errG2 e) }) (i + 1) (by kernel_rfl) (by kernel_rfl) ?_ ?_ ?_
      · rw [wrap1 i (by omega)]
        exact Rem.refl _
      · refine ⟨by omega, fun k hk => ?_⟩
        by_cases hki : k = i
        · subst hki; assumption
        · exact hinv.2 k (by omega)
      · ((repeat' (first | intro _ | refine And.intro ?_ ?_)) <;> first | omega | trivial | assumption | (rename_i hgd; simp only [Bool.and_eq_true, decide_eq_true_eq, and_true] at hgd; omega))
  · skip
    try simp only [boolS, isB_true, isB_false] at hz0
    refine PW.exit ?_
    show PW _ _ _ _ _
    refine PW.seq ?_
    refine PW.region ?_
    refine PL.rowK 3 [6, 7] 2 (s' := { tab := [⟨6, [], D.p 1 0 0 0⟩, ⟨7, [], D.v (.bool false)⟩], mem := [Obj.var 25 (Config.d c), Obj.var 35 [I 0, I 0, I 0, I 0]], gl := (errG2 e) }) (p := True) (by kernel_rfl) (by trivial) ?_
    refine PL.nil ?_
    show PW _ _ _ _ _
    refine PW.ret ?_
    refine retQ_ret (d := D.t [D.r [I 0, I 0, I 0, I 0], D.v (.bool false)]) (ps := []) (by kernel_rfl) trivial ?_
    rw [portQ_no (c := c) fun k hk => hinv.2 k (by omega)]
    rfl
theorem plan_Far_pc_none (e : Nat → Addr) (c : Config) (part node : Int) (hp0 : c.parts.length < 1000000) (hl0 : c.links.length < 1000000) (hpq : portQ c part node = none) : PC Tryd.prog (errG2 e) 19 [D.r (Config.d c), I part, I node] (· = farD (farQ c part node)) := by
  refine PC.of (N := 41) Tryd.func19 rfl rfl (Nat.le_of_ble_eq_true rfl) ?_
  refine PW.seq ?_
  refine PW.region ?_
  refine PL.rowK 4 [1, 2, 3] 1 (s' := { tab := [⟨1, [], I part⟩, ⟨2, [], I node⟩, ⟨3, [], D.p 0 0 0 0⟩], mem := [Obj.var 25 (Config.d c)], gl := (errG2 e) }) (p := True) (by kernel_rfl) (by trivial) ?_
  refine PL.nil ?_
  show PW _ _ _ _ _
  refine PW.seq ?_
  refine PW.region ?_
  refine PL.rowK 3 [3, 14, 15, 16] 1 (s' := { tab := [⟨3, [], D.p 0 0 0 0⟩, ⟨14, [], D.r (Config.d c)⟩, ⟨15, [], I part⟩, ⟨16, [], I node⟩], mem := [Obj.var 25 (Config.d c)], gl := (errG2 e) }) (p := True) (by kernel_rfl) (by trivial) ?_
  refine PL.gcall (A := []) (f := 17) (ds := [D.r (Config.d c), I part, I node]) (by kernel_rfl) (by kernel_rfl) (by kernel_rfl) (by kernel_rfl) (by kernel_rfl) rfl (D.t [D.r [I 0, I 0, I 0, I 0], D.v (.bool false)]) (fun _ => (plan_Port_pc e c part node hp0 hl0).eq (by rw [hpq]; rfl)) ?_
  refine PL.rowK 6 [3, 9, 10] 2 (s' := { tab := [⟨3, [], D.p 0 0 0 0⟩, ⟨9, [], D.p 1 0 0 0⟩, ⟨10, [], D.v (.bool false)⟩], mem := [Obj.var 25 (Config.d c), Obj.var 35 [I 0, I 0, I 0, I 0]], gl := (errG2 e) }) (p := True) (by kernel_rfl) (by trivial) ?_
  refine PL.nil ?_
  show PW _ _ _ _ _
  refine PW.seq ?_
  refine PW.seq ?_
  refine PW.region ?_
  refine PL.rowK 2 [3, 9, 21] 2 (s' := { tab := [⟨3, [], D.p 0 0 0 0⟩, ⟨9, [], D.p 1 0 0 0⟩, ⟨21, [], D.v (.bool true)⟩], mem := [Obj.var 25 (Config.d c), Obj.var 35 [I 0, I 0, I 0, I 0]], gl := (errG2 e) }) (p := True) (by kernel_rfl) (by trivial) ?_
  refine PL.nil ?_
  show PW _ _ _ _ _
  refine PW.cond (z := true) (by kernel_rfl) (fun hz0 => ?_) (fun hz0 => by cases hz0)
  refine PW.seq ?_
  refine PW.region ?_
  refine PL.rowK 3 [6, 7, 8] 2 (s' := { tab := [⟨6, [], I 0⟩, ⟨7, [], I 0⟩, ⟨8, [], D.v (.bool false)⟩], mem := [Obj.var 25 (Config.d c), Obj.var 35 [I 0, I 0, I 0, I 0]], gl := (errG2 e) }) (p := True) (by kernel_rfl) (by trivial) ?_
  refine PL.nil ?_
  show PW _ _ _ _ _
  refine PW.ret ?_
  refine retQ_ret (d := D.t [I 0, I 0, D.v (.bool false)]) (ps := []) (by kernel_rfl) trivial ?_
  unfold farQ
  rw [hpq]
  rfl
theorem plan_Far_pc_00 (e : Nat → Addr) (c : Config) (part node : Int) (hp0 : c.parts.length < 1000000) (hl0 : c.links.length < 1000000) (i : Nat) (hi : i < c.links.length) (hpq : portQ c part node = some ⟨node, i, 0, 0⟩) : PC Tryd.prog (errG2 e) 19 [D.r (Config.d c), I part, I node] (· = farD (farQ c part node)) := by
  refine PC.of (N := 41) Tryd.func19 rfl rfl (Nat.le_of_ble_eq_true rfl) ?_
  refine PW.seq ?_
  refine PW.region ?_
  refine PL.rowK 4 [1, 2, 3] 1 (s' := { tab := [⟨1, [], I part⟩, ⟨2, [], I node⟩, ⟨3, [], D.p 0 0 0 0⟩], mem := [Obj.var 25 (Config.d c)], gl := (errG2 e) }) (p := True) (by kernel_rfl) (by trivial) ?_
  refine PL.nil ?_
  show PW _ _ _ _ _
  refine PW.seq ?_
  refine PW.region ?_
  refine PL.rowK 3 [3, 14, 15, 16] 1 (s' := { tab := [⟨3, [], D.p 0 0 0 0⟩, ⟨14, [], D.r (Config.d c)⟩, ⟨15, [], I part⟩, ⟨16, [], I node⟩], mem := [Obj.var 25 (Config.d c)], gl := (errG2 e) }) (p := True) (by kernel_rfl) (by trivial) ?_
  refine PL.gcall (A := []) (f := 17) (ds := [D.r (Config.d c), I part, I node]) (by kernel_rfl) (by kernel_rfl) (by kernel_rfl) (by kernel_rfl) (by kernel_rfl) rfl (D.t [D.r [I node, I (i : Int), I 0, I 0], D.v (.bool true)]) (fun _ => (plan_Port_pc e c part node hp0 hl0).eq (by rw [hpq]; rfl)) ?_
  refine PL.rowK 6 [3, 9, 10] 2 (s' := { tab := [⟨3, [], D.p 0 0 0 0⟩, ⟨9, [], D.p 1 0 0 0⟩, ⟨10, [], D.v (.bool true)⟩], mem := [Obj.var 25 (Config.d c), Obj.var 35 [I node, I (i : Int), I 0, I 0]], gl := (errG2 e) }) (p := True) (by kernel_rfl) (by trivial) ?_
  refine PL.nil ?_
  show PW _ _ _ _ _
  refine PW.seq ?_
  refine PW.seq ?_
  refine PW.region ?_
  refine PL.rowK 2 [3, 9, 21] 2 (s' := { tab := [⟨3, [], D.p 0 0 0 0⟩, ⟨9, [], D.p 1 0 0 0⟩, ⟨21, [], D.v (.bool false)⟩], mem := [Obj.var 25 (Config.d c), Obj.var 35 [I node, I (i : Int), I 0, I 0]], gl := (errG2 e) }) (p := True) (by kernel_rfl) (by trivial) ?_
  refine PL.nil ?_
  show PW _ _ _ _ _
  refine PW.cond (z := false) (by kernel_rfl) (fun hz0 => by cases hz0) (fun hz0 => ?_)
  refine PW.skip ?_
  show PW _ _ _ _ _
  refine PW.seq ?_
  refine PW.region ?_
  refine PL.rowK 6 [9, 27] 2 (s' := { tab := [⟨9, [], D.p 1 0 0 0⟩, ⟨27, [], D.r [I ((c.links.getD i default).a), I ((c.links.getD i default).b), I ((c.links.getD i default).pa0), I ((c.links.getD i default).pa1), I ((c.links.getD i default).pb0), I ((c.links.getD i default).pb1)]⟩], mem := [Obj.var 25 (Config.d c), Obj.var 35 [I node, I (i : Int), I 0, I 0]], gl := (errG2 e) }) (p := (0 ≤ (i : Int) ∧ (i : Int) < (c.links.length : Int))) (by kernel_rfl) (by ((repeat' (first | intro _ | refine And.intro ?_ ?_)) <;> first | omega | trivial | assumption | (rename_i hgd; simp only [Bool.and_eq_true, decide_eq_true_eq, and_true] at hgd; omega))) ?_
  refine PL.gcall (A := []) (f := 42) (ds := [D.r [I ((c.links.getD i default).a), I ((c.links.getD i default).b), I ((c.links.getD i default).pa0), I ((c.links.getD i default).pa1), I ((c.links.getD i default).pb0), I ((c.links.getD i default).pb1)]]) (by kernel_rfl) (by kernel_rfl) (by kernel_rfl) (by kernel_rfl) (by kernel_rfl) rfl (D.r [I ((c.links.getD i default).a), I ((c.links.getD i default).pa0), I ((c.links.getD i default).pa1), I ((c.links.getD i default).b), I ((c.links.getD i default).pb0), I ((c.links.getD i default).pb1)]) (fun _ => PC.more (plan_ends_pc (c.links.getD i default))) ?_
  refine PL.rowK 2 [9, 11] 3 (s' := { tab := [⟨9, [], D.p 1 0 0 0⟩, ⟨11, [], D.p 2 0 0 0⟩], mem := [Obj.var 25 (Config.d c), Obj.var 35 [I node, I (i : Int), I 0, I 0], Obj.var 71 [I ((c.links.getD i default).a), I ((c.links.getD i default).pa0), I ((c.links.getD i default).pa1), I ((c.links.getD i default).b), I ((c.links.getD i default).pb0), I ((c.links.getD i default).pb1)]], gl := (errG2 e) }) (p := True) (by kernel_rfl) (by trivial) ?_
  refine PL.nil ?_
  show PW _ _ _ _ _
  refine PW.seq ?_
  refine PW.region ?_
  refine PL.rowK 7 [9, 12] 4 (s' := { tab := [⟨9, [], D.p 1 0 0 0⟩, ⟨12, [], D.p 3 0 0 0⟩], mem := [Obj.var 25 (Config.d c), Obj.var 35 [I node, I (i : Int), I 0, I 0], Obj.var 71 [I ((c.links.getD i default).a), I ((c.links.getD i default).pa0), I ((c.links.getD i default).pa1), I ((c.links.getD i default).b), I ((c.links.getD i default).pb0), I ((c.links.getD i default).pb1)], Obj.var 70 [I ((c.links.getD i default).b), I ((c.links.getD i default).pb0), I ((c.links.getD i default).pb1)]], gl := (errG2 e) }) (p := (0 ≤ (1 : Int) ∧ (1 : Int) < ((2 : Nat) : Int))) (by kernel_rfl) (by ((repeat' (first | intro _ | refine And.intro ?_ ?_)) <;> first | omega | trivial | assumption | (rename_i hgd; simp only [Bool.and_eq_true, decide_eq_true_eq, and_true] at hgd; omega))) ?_
  refine PL.nil ?_
  show PW _ _ _ _ _
  refine PW.seq ?_
  refine PW.open [] (by kernel_rfl) ?_
  refine PO.takes [0, 1, 2, 3, 4, 5, 6, 7, 8, 9] 10 [6, 7, 8] 4 (n := 0) (s' := { tab := [⟨6, [], I ((c.links.getD i default).b)⟩, ⟨7, [], I ((c.links.getD i default).pb0)⟩, ⟨8, [], D.v (.bool true)⟩], mem := [Obj.var 25 (Config.d c), Obj.var 35 [I node, I (i : Int), I 0, I 0], Obj.var 71 [I ((c.links.getD i default).a), I ((c.links.getD i default).pa0), I ((c.links.getD i default).pa1), I ((c.links.getD i default).b), I ((c.links.getD i default).pb0), I ((c.links.getD i default).pb1)], Obj.var 70 [I ((c.links.getD i default).b), I ((c.links.getD i default).pb0), I ((c.links.getD i default).pb1)]], gl := (errG2 e) }) (p := (0 ≤ (0 : Int) ∧ (0 : Int) < ((2 : Nat) : Int))) (by kernel_rfl) (fun _ _ h => h) (by kernel_rfl) (by kernel_rfl) (by kernel_rfl) (by kernel_rfl) (by kernel_rfl) (by kernel_rfl) (by kernel_rfl) (by kernel_rfl) (by ((repeat' (first | intro _ | refine And.intro ?_ ?_)) <;> first | omega | trivial | assumption | (rename_i hgd; simp only [Bool.and_eq_true, decide_eq_true_eq, and_true] at hgd; omega))) ?_
  refine PO.done (by kernel_rfl) ?_
  show PW _ _ _ _ _
  refine PW.ret ?_
  refine retQ_ret (d := D.t [I ((c.links.getD i default).b), I ((c.links.getD i default).pb0), D.v (.bool true)]) (ps := []) (by kernel_rfl) trivial ?_
  unfold farQ
  rw [hpq]
  rfl
theorem plan_Far_pc_01 (e : Nat → Addr) (c : Config) (part node : Int) (hp0 : c.parts.length < 1000000) (hl0 : c.links.length < 1000000) (i : Nat) (hi : i < c.links.length) (hpq : portQ c part node = some ⟨node, i, 0, 1⟩) : PC Tryd.prog (errG2 e) 19 [D.r (Config.d c), I part, I node] (· = farD (farQ c part node)) := by
  refine PC.of (N := 41) Tryd.func19 rfl rfl (Nat.le_of_ble_eq_true rfl) ?_
  refine PW.seq ?_
  refine PW.region ?_
  refine PL.rowK 4 [1, 2, 3] 1 (s' := { tab := [⟨1, [], I part⟩, ⟨2, [], I node⟩, ⟨3, [], D.p 0 0 0 0⟩], mem := [Obj.var 25 (Config.d c)], gl := (errG2 e) }) (p := True) (by kernel_rfl) (by trivial) ?_
  refine PL.nil ?_
  show PW _ _ _ _ _
  refine PW.seq ?_
  refine PW.region ?_
  refine PL.rowK 3 [3, 14, 15, 16] 1 (s' := { tab := [⟨3, [], D.p 0 0 0 0⟩, ⟨14, [], D.r (Config.d c)⟩, ⟨15, [], I part⟩, ⟨16, [], I node⟩], mem := [Obj.var 25 (Config.d c)], gl := (errG2 e) }) (p := True) (by kernel_rfl) (by trivial) ?_
  refine PL.gcall (A := []) (f := 17) (ds := [D.r (Config.d c), I part, I node]) (by kernel_rfl) (by kernel_rfl) (by kernel_rfl) (by kernel_rfl) (by kernel_rfl) rfl (D.t [D.r [I node, I (i : Int), I 0, I 1], D.v (.bool true)]) (fun _ => (plan_Port_pc e c part node hp0 hl0).eq (by rw [hpq]; rfl)) ?_
  refine PL.rowK 6 [3, 9, 10] 2 (s' := { tab := [⟨3, [], D.p 0 0 0 0⟩, ⟨9, [], D.p 1 0 0 0⟩, ⟨10, [], D.v (.bool true)⟩], mem := [Obj.var 25 (Config.d c), Obj.var 35 [I node, I (i : Int), I 0, I 1]], gl := (errG2 e) }) (p := True) (by kernel_rfl) (by trivial) ?_
  refine PL.nil ?_
  show PW _ _ _ _ _
  refine PW.seq ?_
  refine PW.seq ?_
  refine PW.region ?_
  refine PL.rowK 2 [3, 9, 21] 2 (s' := { tab := [⟨3, [], D.p 0 0 0 0⟩, ⟨9, [], D.p 1 0 0 0⟩, ⟨21, [], D.v (.bool false)⟩], mem := [Obj.var 25 (Config.d c), Obj.var 35 [I node, I (i : Int), I 0, I 1]], gl := (errG2 e) }) (p := True) (by kernel_rfl) (by trivial) ?_
  refine PL.nil ?_
  show PW _ _ _ _ _
  refine PW.cond (z := false) (by kernel_rfl) (fun hz0 => by cases hz0) (fun hz0 => ?_)
  refine PW.skip ?_
  show PW _ _ _ _ _
  refine PW.seq ?_
  refine PW.region ?_
  refine PL.rowK 6 [9, 27] 2 (s' := { tab := [⟨9, [], D.p 1 0 0 0⟩, ⟨27, [], D.r [I ((c.links.getD i default).a), I ((c.links.getD i default).b), I ((c.links.getD i default).pa0), I ((c.links.getD i default).pa1), I ((c.links.getD i default).pb0), I ((c.links.getD i default).pb1)]⟩], mem := [Obj.var 25 (Config.d c), Obj.var 35 [I node, I (i : Int), I 0, I 1]], gl := (errG2 e) }) (p := (0 ≤ (i : Int) ∧ (i : Int) < (c.links.length : Int))) (by kernel_rfl) (by ((repeat' (first | intro _ | refine And.intro ?_ ?_)) <;> first | omega | trivial | assumption | (rename_i hgd; simp only [Bool.and_eq_true, decide_eq_true_eq, and_true] at hgd; omega))) ?_
  refine PL.gcall (A := []) (f := 42) (ds := [D.r [I ((c.links.getD i default).a), I ((c.links.getD i default).b), I ((c.links.getD i default).pa0), I ((c.links.getD i default).pa1), I ((c.links.getD i default).pb0), I ((c.links.getD i default).pb1)]]) (by kernel_rfl) (by kernel_rfl) (by kernel_rfl) (by kernel_rfl) (by kernel_rfl) rfl (D.r [I ((c.links.getD i default).a), I ((c.links.getD i default).pa0), I ((c.links.getD i default).pa1), I ((c.links.getD i default).b), I ((c.links.getD i default).pb0), I ((c.links.getD i default).pb1)]) (fun _ => PC.more (plan_ends_pc (c.links.getD i default))) ?_
  refine PL.rowK 2 [9, 11] 3 (s' := { tab := [⟨9, [], D.p 1 0 0 0⟩, ⟨11, [], D.p 2 0 0 0⟩], mem := [Obj.var 25 (Config.d c), Obj.var 35 [I node, I (i : Int), I 0, I 1], Obj.var 71 [I ((c.links.getD i default).a), I ((c.links.getD i default).pa0), I ((c.links.getD i default).pa1), I ((c.links.getD i default).b), I ((c.links.getD i default).pb0), I ((c.links.getD i default).pb1)]], gl := (errG2 e) }) (p := True) (by kernel_rfl) (by trivial) ?_
  refine PL.nil ?_
  show PW _ _ _ _ _
  refine PW.seq ?_
  refine PW.region ?_
  refine PL.rowK 7 [9, 12] 4 (s' := { tab := [⟨9, [], D.p 1 0 0 0⟩, ⟨12, [], D.p 3 0 0 0⟩], mem := [Obj.var 25 (Config.d c), Obj.var 35 [I node, I (i : Int), I 0, I 1], Obj.var 71 [I ((c.links.getD i default).a), I ((c.links.getD i default).pa0), I ((c.links.getD i default).pa1), I ((c.links.getD i default).b), I ((c.links.getD i default).pb0), I ((c.links.getD i default).pb1)], Obj.var 70 [I ((c.links.getD i default).a), I ((c.links.getD i default).pa0), I ((c.links.getD i default).pa1)]], gl := (errG2 e) }) (p := (0 ≤ (0 : Int) ∧ (0 : Int) < ((2 : Nat) : Int))) (by kernel_rfl) (by ((repeat' (first | intro _ | refine And.intro ?_ ?_)) <;> first | omega | trivial | assumption | (rename_i hgd; simp only [Bool.and_eq_true, decide_eq_true_eq, and_true] at hgd; omega))) ?_
  refine PL.nil ?_
  show PW _ _ _ _ _
  refine PW.seq ?_
  refine PW.open [] (by kernel_rfl) ?_
  refine PO.takes [0, 1, 2, 3, 4, 5, 6, 7, 8, 9] 10 [6, 7, 8] 4 (n := 0) (s' := { tab := [⟨6, [], I ((c.links.getD i default).a)⟩, ⟨7, [], I ((c.links.getD i default).pa0)⟩, ⟨8, [], D.v (.bool true)⟩], mem := [Obj.var 25 (Config.d c), Obj.var 35 [I node, I (i : Int), I 0, I 1], Obj.var 71 [I ((c.links.getD i default).a), I ((c.links.getD i default).pa0), I ((c.links.getD i default).pa1), I ((c.links.getD i default).b), I ((c.links.getD i default).pb0), I ((c.links.getD i default).pb1)], Obj.var 70 [I ((c.links.getD i default).a), I ((c.links.getD i default).pa0), I ((c.links.getD i default).pa1)]], gl := (errG2 e) }) (p := (0 ≤ (0 : Int) ∧ (0 : Int) < ((2 : Nat) : Int))) (by kernel_rfl) (fun _ _ h => h) (by kernel_rfl) (by kernel_rfl) (by kernel_rfl) (by kernel_rfl) (by kernel_rfl) (by kernel_rfl) (by kernel_rfl) (by kernel_rfl) (by ((repeat' (first | intro _ | refine And.intro ?_ ?_)) <;> first | omega | trivial | assumption | (rename_i hgd; simp only [Bool.and_eq_true, decide_eq_true_eq, and_true] at hgd; omega))) ?_
  refine PO.done (by kernel_rfl) ?_
  show PW _ _ _ _ _
  refine PW.ret ?_
  refine retQ_ret (d := D.t [I ((c.links.getD i default).a), I ((c.links.getD i default).pa0), D.v (.bool true)]) (ps := []) (by kernel_rfl) trivial ?_
  unfold farQ
  rw [hpq]
  rfl
theorem plan_Far_pc_10 (e : Nat → Addr) (c : Config) (part node : Int) (hp0 : c.parts.length < 1000000) (hl0 : c.links.length < 1000000) (i : Nat) (hi : i < c.links.length) (hpq : portQ c part node = some ⟨node, i, 1, 0⟩) : PC Tryd.prog (errG2 e) 19 [D.r (Config.d c), I part, I node] (· = farD (farQ c part node)) := by
  refine PC.of (N := 41) Tryd.func19 rfl rfl (Nat.le_of_ble_eq_true rfl) ?_
  refine PW.seq ?_
  refine PW.region ?_
  refine PL.rowK 4 [1, 2, 3] 1 (s' := { tab := [⟨1, [], I part⟩, ⟨2, [], I node⟩, ⟨3, [], D.p 0 0 0 0⟩], mem := [Obj.var 25 (Config.d c)], gl := (errG2 e) }) (p := True) (by kernel_rfl) (by trivial) ?_
  refine PL.nil ?_
  show PW _ _ _ _ _
  refine PW.seq ?_
  refine PW.region ?_
  refine PL.rowK 3 [3, 14, 15, 16] 1 (s' := { tab := [⟨3, [], D.p 0 0 0 0⟩, ⟨14, [], D.r (Config.d c)⟩, ⟨15, [], I part⟩, ⟨16, [], I node⟩], mem := [Obj.var 25 (Config.d c)], gl := (errG2 e) }) (p := True) (by kernel_rfl) (by trivial) ?_
  refine PL.gcall (A := []) (f := 17) (ds := [D.r (Config.d c), I part, I node]) (by kernel_rfl) (by kernel_rfl) (by kernel_rfl) (by kernel_rfl) (by kernel_rfl) rfl (D.t [D.r [I node, I (i : Int), I 1, I 0], D.v (.bool true)]) (fun _ => (plan_Port_pc e c part node hp0 hl0).eq (by rw [hpq]; rfl)) ?_
  refine PL.rowK 6 [3, 9, 10] 2 (s' := { tab := [⟨3, [], D.p 0 0 0 0⟩, ⟨9, [], D.p 1 0 0 0⟩, ⟨10, [], D.v (.bool true)⟩], mem := [Obj.var 25 (Config.d c), Obj.var 35 [I node, I (i : Int), I 1, I 0]], gl := (errG2 e) }) (p := True) (by kernel_rfl) (by trivial) ?_
  refine PL.nil ?_
  show PW _ _ _ _ _
  refine PW.seq ?_
  refine PW.seq ?_
  refine PW.region ?_
  refine PL.rowK 2 [3, 9, 21] 2 (s' := { tab := [⟨3, [], D.p 0 0 0 0⟩, ⟨9, [], D.p 1 0 0 0⟩, ⟨21, [], D.v (.bool false)⟩], mem := [Obj.var 25 (Config.d c), Obj.var 35 [I node, I (i : Int), I 1, I 0]], gl := (errG2 e) }) (p := True) (by kernel_rfl) (by trivial) ?_
  refine PL.nil ?_
  show PW _ _ _ _ _
  refine PW.cond (z := false) (by kernel_rfl) (fun hz0 => by cases hz0) (fun hz0 => ?_)
  refine PW.skip ?_
  show PW _ _ _ _ _
  refine PW.seq ?_
  refine PW.region ?_
  refine PL.rowK 6 [9, 27] 2 (s' := { tab := [⟨9, [], D.p 1 0 0 0⟩, ⟨27, [], D.r [I ((c.links.getD i default).a), I ((c.links.getD i default).b), I ((c.links.getD i default).pa0), I ((c.links.getD i default).pa1), I ((c.links.getD i default).pb0), I ((c.links.getD i default).pb1)]⟩], mem := [Obj.var 25 (Config.d c), Obj.var 35 [I node, I (i : Int), I 1, I 0]], gl := (errG2 e) }) (p := (0 ≤ (i : Int) ∧ (i : Int) < (c.links.length : Int))) (by kernel_rfl) (by ((repeat' (first | intro _ | refine And.intro ?_ ?_)) <;> first | omega | trivial | assumption | (rename_i hgd; simp only [Bool.and_eq_true, decide_eq_true_eq, and_true] at hgd; omega))) ?_
  refine PL.gcall (A := []) (f := 42) (ds := [D.r [I ((c.links.getD i default).a), I ((c.links.getD i default).b), I ((c.links.getD i default).pa0), I ((c.links.getD i default).pa1), I ((c.links.getD i default).pb0), I ((c.links.getD i default).pb1)]]) (by kernel_rfl) (by kernel_rfl) (by kernel_rfl) (by kernel_rfl) (by kernel_rfl) rfl (D.r [I ((c.links.getD i default).a), I ((c.links.getD i default).pa0), I ((c.links.getD i default).pa1), I ((c.links.getD i default).b), I ((c.links.getD i default).pb0), I ((c.links.getD i default).pb1)]) (fun _ => PC.more (plan_ends_pc (c.links.getD i default))) ?_
  refine PL.rowK 2 [9, 11] 3 (s' := { tab := [⟨9, [], D.p 1 0 0 0⟩, ⟨11, [], D.p 2 0 0 0⟩], mem := [Obj.var 25 (Config.d c), Obj.var 35 [I node, I (i : Int), I 1, I 0], Obj.var 71 [I ((c.links.getD i default).a), I ((c.links.getD i default).pa0), I ((c.links.getD i default).pa1), I ((c.links.getD i default).b), I ((c.links.getD i default).pb0), I ((c.links.getD i default).pb1)]], gl := (errG2 e) }) (p := True) (by kernel_rfl) (by trivial) ?_
  refine PL.nil ?_
  show PW _ _ _ _ _
  refine PW.seq ?_
  refine PW.region ?_
  refine PL.rowK 7 [9, 12] 4 (s' := { tab := [⟨9, [], D.p 1 0 0 0⟩, ⟨12, [], D.p 3 0 0 0⟩], mem := [Obj.var 25 (Config.d c), Obj.var 35 [I node, I (i : Int), I 1, I 0], Obj.var 71 [I ((c.links.getD i default).a), I ((c.links.getD i default).pa0), I ((c.links.getD i default).pa1), I ((c.links.getD i default).b), I ((c.links.getD i default).pb0), I ((c.links.getD i default).pb1)], Obj.var 70 [I ((c.links.getD i default).b), I ((c.links.getD i default).pb0), I ((c.links.getD i default).pb1)]], gl := (errG2 e) }) (p := (0 ≤ (1 : Int) ∧ (1 : Int) < ((2 : Nat) : Int))) (by kernel_rfl) (by ((repeat' (first | intro _ | refine And.intro ?_ ?_)) <;> first | omega | trivial | assumption | (rename_i hgd; simp only [Bool.and_eq_true, decide_eq_true_eq, and_true] at hgd; omega))) ?_
  refine PL.nil ?_
  show PW _ _ _ _ _
  refine PW.seq ?_
  refine PW.open [] (by kernel_rfl) ?_
  refine PO.takes [0, 1, 2, 3, 4, 5, 6, 7, 8, 9] 10 [6, 7, 8] 4 (n := 0) (s' := { tab := [⟨6, [], I ((c.links.getD i default).b)⟩, ⟨7, [], I ((c.links.getD i default).pb1)⟩, ⟨8, [], D.v (.bool true)⟩], mem := [Obj.var 25 (Config.d c), Obj.var 35 [I node, I (i : Int), I 1, I 0], Obj.var 71 [I ((c.links.getD i default).a), I ((c.links.getD i default).pa0), I ((c.links.getD i default).pa1), I ((c.links.getD i default).b), I ((c.links.getD i default).pb0), I ((c.links.getD i default).pb1)], Obj.var 70 [I ((c.links.getD i default).b), I ((c.links.getD i default).pb0), I ((c.links.getD i default).pb1)]], gl := (errG2 e) }) (p := (0 ≤ (1 : Int) ∧ (1 : Int) < ((2 : Nat) : Int))) (by kernel_rfl) (fun _ _ h => h) (by kernel_rfl) (by kernel_rfl) (by kernel_rfl) (by kernel_rfl) (by kernel_rfl) (by kernel_rfl) (by kernel_rfl) (by kernel_rfl) (by ((repeat' (first | intro _ | refine And.intro ?_ ?_)) <;> first | omega | trivial | assumption | (rename_i hgd; simp only [Bool.and_eq_true, decide_eq_true_eq, and_true] at hgd; omega))) ?_
  refine PO.done (by kernel_rfl) ?_
  show PW _ _ _ _ _
  refine PW.ret ?_
  refine retQ_ret (d := D.t [I ((c.links.getD i default).b), I ((c.links.getD i default).pb1), D.v (.bool true)]) (ps := []) (by kernel_rfl) trivial ?_
  unfold farQ
  rw [hpq]
  rfl
theorem plan_Far_pc_11 (e : Nat → Addr) (c : Config) (part node : Int) (hp0 : c.parts.length < 1000000) (hl0 : c.links.length < 1000000) (i : Nat) (hi : i < c.links.length) (hpq : portQ c part node = some ⟨node, i, 1, 1⟩) : PC Tryd.prog (errG2 e) 19 [D.r (Config.d c), I part, I node] (· = farD (farQ c part node)) := by
  refine PC.of (N := 41) Tryd.func19 rfl rfl (Nat.le_of_ble_eq_true rfl) ?_
  refine PW.seq ?_
  refine PW.region ?_
  refine PL.rowK 4 [1, 2, 3] 1 (s' := { tab := [⟨1, [], I part⟩, ⟨2, [], I node⟩, ⟨3, [], D.p 0 0 0 0⟩], mem := [Obj.var 25 (Config.d c)], gl := (errG2 e) }) (p := True) (by kernel_rfl) (by trivial) ?_
  refine PL.nil ?_
  show PW _ _ _ _ _
  refine PW.seq ?_
  refine PW.region ?_
  refine PL.rowK 3 [3, 14, 15, 16] 1 (s' := { tab := [⟨3, [], D.p 0 0 0 0⟩, ⟨14, [], D.r (Config.d c)⟩, ⟨15, [], I part⟩, ⟨16, [], I node⟩], mem := [Obj.var 25 (Config.d c)], gl := (errG2 e) }) (p := True) (by kernel_rfl) (by trivial) ?_
  refine PL.gcall (A := []) (f := 17) (ds := [D.r (Config.d c), I part, I node]) (by kernel_rfl) (by kernel_rfl) (by kernel_rfl) (by kernel_rfl) (by kernel_rfl) rfl (D.t [D.r [I node, I (i : Int), I 1, I 1], D.v (.bool true)]) (fun _ => (plan_Port_pc e c part node hp0 hl0).eq (by rw [hpq]; rfl)) ?_
  refine PL.rowK 6 [3, 9, 10] 2 (s' := { tab := [⟨3, [], D.p 0 0 0 0⟩, ⟨9, [], D.p 1 0 0 0⟩, ⟨10, [], D.v (.bool true)⟩], mem := [Obj.var 25 (Config.d c), Obj.var 35 [I node, I (i : Int), I 1, I 1]], gl := (errG2 e) }) (p := True) (by kernel_rfl) (by trivial) ?_
  refine PL.nil ?_
  show PW _ _ _ _ _
  refine PW.seq ?_
  refine PW.seq ?_
  refine PW.region ?_
  refine PL.rowK 2 [3, 9, 21] 2 (s' := { tab := [⟨3, [], D.p 0 0 0 0⟩, ⟨9, [], D.p 1 0 0 0⟩, ⟨21, [], D.v (.bool false)⟩], mem := [Obj.var 25 (Config.d c), Obj.var 35 [I node, I (i : Int), I 1, I 1]], gl := (errG2 e) }) (p := True) (by kernel_rfl) (by trivial) ?_
  refine PL.nil ?_
  show PW _ _ _ _ _
  refine PW.cond (z := false) (by kernel_rfl) (fun hz0 => by cases hz0) (fun hz0 => ?_)
  refine PW.skip ?_
  show PW _ _ _ _ _
  refine PW.seq ?_
  refine PW.region ?_
  refine PL.rowK 6 [9, 27] 2 (s' := { tab := [⟨9, [], D.p 1 0 0 0⟩, ⟨27, [], D.r [I ((c.links.getD i default).a), I ((c.links.getD i default).b), I ((c.links.getD i default).pa0), I ((c.links.getD i default).pa1), I ((c.links.getD i default).pb0), I ((c.links.getD i default).pb1)]⟩], mem := [Obj.var 25 (Config.d c), Obj.var 35 [I node, I (i : Int), I 1, I 1]], gl := (errG2 e) }) (p := (0 ≤ (i : Int) ∧ (i : Int) < (c.links.length : Int))) (by kernel_rfl) (by ((repeat' (first | intro _ | refine And.intro ?_ ?_)) <;> first | omega | trivial | assumption | (rename_i hgd; simp only [Bool.and_eq_true, decide_eq_true_eq, and_true] at hgd; omega))) ?_
  refine PL.gcall (A := []) (f := 42) (ds := [D.r [I ((c.links.getD i default).a), I ((c.links.getD i default).b), I ((c.links.getD i default).pa0), I ((c.links.getD i default).pa1), I ((c.links.getD i default).pb0), I ((c.links.getD i default).pb1)]]) (by kernel_rfl) (by kernel_rfl) (by kernel_rfl) (by kernel_rfl) (by kernel_rfl) rfl (D.r [I ((c.links.getD i default).a), I ((c.links.getD i default).pa0), I ((c.links.getD i default).pa1), I ((c.links.getD i default).b), I ((c.links.getD i default).pb0), I ((c.links.getD i default).pb1)]) (fun _ => PC.more (plan_ends_pc (c.links.getD i default))) ?_
  refine PL.rowK 2 [9, 11] 3 (s' := { tab := [⟨9, [], D.p 1 0 0 0⟩, ⟨11, [], D.p 2 0 0 0⟩], mem := [Obj.var 25 (Config.d c), Obj.var 35 [I node, I (i : Int), I 1, I 1], Obj.var 71 [I ((c.links.getD i default).a), I ((c.links.getD i default).pa0), I ((c.links.getD i default).pa1), I ((c.links.getD i default).b), I ((c.links.getD i default).pb0), I ((c.links.getD i default).pb1)]], gl := (errG2 e) }) (p := True) (by kernel_rfl) (by trivial) ?_
  refine PL.nil ?_
  show PW _ _ _ _ _
  refine PW.seq ?_
  refine PW.region ?_
  refine PL.rowK 7 [9, 12] 4 (s' := { tab := [⟨9, [], D.p 1 0 0 0⟩, ⟨12, [], D.p 3 0 0 0⟩], mem := [Obj.var 25 (Config.d c), Obj.var 35 [I node, I (i : Int), I 1, I 1], Obj.var 71 [I ((c.links.getD i default).a), I ((c.links.getD i default).pa0), I ((c.links.getD i default).pa1), I ((c.links.getD i default).b), I ((c.links.getD i default).pb0), I ((c.links.getD i default).pb1)], Obj.var 70 [I ((c.links.getD i default).a), I ((c.links.getD i default).pa0), I ((c.links.getD i default).pa1)]], gl := (errG2 e) }) (p := (0 ≤ (0 : Int) ∧ (0 : Int) < ((2 : Nat) : Int))) (by kernel_rfl) (by ((repeat' (first | intro _ | refine And.intro ?_ ?_)) <;> first | omega | trivial | assumption | (rename_i hgd; simp only [Bool.and_eq_true, decide_eq_true_eq, and_true] at hgd; omega))) ?_
  refine PL.nil ?_
  show PW _ _ _ _ _
  refine PW.seq ?_
  refine PW.open [] (by kernel_rfl) ?_
  refine PO.takes [0, 1, 2, 3, 4, 5, 6, 7, 8, 9] 10 [6, 7, 8] 4 (n := 0) (s' := { tab := [⟨6, [], I ((c.links.getD i default).a)⟩, ⟨7, [], I ((c.links.getD i default).pa1)⟩, ⟨8, [], D.v (.bool true)⟩], mem := [Obj.var 25 (Config.d c), Obj.var 35 [I node, I (i : Int), I 1, I 1], Obj.var 71 [I ((c.links.getD i default).a), I ((c.links.getD i default).pa0), I ((c.links.getD i default).pa1), I ((c.links.getD i default).b), I ((c.links.getD i default).pb0), I ((c.links.getD i default).pb1)], Obj.var 70 [I ((c.links.getD i default).a), I ((c.links.getD i default).pa0), I ((c.links.getD i default).pa1)]], gl := (errG2 e) }) (p := (0 ≤ (1 : Int) ∧ (1 : Int) < ((2 : Nat) : Int))) (by kernel_rfl) (fun _ _ h => h) (by kernel_rfl) (by kernel_rfl) (by kernel_rfl) (by kernel_rfl) (by kernel_rfl) (by kernel_rfl) (by kernel_rfl) (by kernel_rfl) (by ((repeat' (first | intro _ | refine And.intro ?_ ?_)) <;> first | omega | trivial | assumption | (rename_i hgd; simp only [Bool.and_eq_true, decide_eq_true_eq, and_true] at hgd; omega))) ?_
  refine PO.done (by kernel_rfl) ?_
  show PW _ _ _ _ _
  refine PW.ret ?_
  refine retQ_ret (d := D.t [I ((c.links.getD i default).a), I ((c.links.getD i default).pa1), D.v (.bool true)]) (ps := []) (by kernel_rfl) trivial ?_
  unfold farQ
  rw [hpq]
  rfl
theorem plan_Far_pc (e : Nat → Addr) (c : Config) (part node : Int) (hp0 : c.parts.length < 1000000) (hl0 : c.links.length < 1000000) : PC Tryd.prog (errG2 e) 19 [D.r (Config.d c), I part, I node] (· = farD (farQ c part node)) := by
  cases hpq : portQ c part node with
  | none => exact plan_Far_pc_none e c part node hp0 hl0 hpq
  | some p =>
    obtain ⟨i, hi, g, s, rfl, hg, hs⟩ := portQ_form hpq
    rcases hg with rfl | rfl <;> rcases hs with rfl | rfl
    · exact plan_Far_pc_00 e c part node hp0 hl0 i hi hpq
    · exact plan_Far_pc_01 e c part node hp0 hl0 i hi hpq
    · exact plan_Far_pc_10 e c part node hp0 hl0 i hi hpq
    · exact plan_Far_pc_11 e c part node hp0 hl0 i hi hpq
end Go.Proofs.YtlcjcdgmiaakjaaDoor.Pl
