/- Chapter 5's law PlanFar. -/
import Derived.Test.YtlcjcdgmiaakjaaDoorMdFour
import Derived.Test.YtlcjcdgmiaakjaaDoorPlAlive
import Derived.Test.YtlcjcdgmiaakjaaDoorPlFar
namespace Go.Proofs.YtlcjcdgmiaakjaaDoor.Pl
open Go.RowKit Go.Proofs.YtlcjcdgmiaakjaaDoor.Sm Go.Proofs.YtlcjcdgmiaakjaaDoor.Dp
set_option maxHeartbeats 4000000
set_option maxRecDepth 100000
set_option linter.unusedVariables false
set_option linter.unusedSimpArgs false
theorem raw_mem {ls : List Link} {part : Int} {p : Port} : ∀ {n i : Nat}, i < n → p ∈ portsAt (ls.getD i default) i part → p ∈ rawN ls part n
  | 0, i, hi, _ => absurd hi (Nat.not_lt_zero _)
  | n + 1, i, hi, h => by
    rw [rawN]
    rcases Nat.lt_or_ge i n with h1 | h1
    · exact List.mem_append_left _ (raw_mem h1 h)
    · have : i = n := by omega
      subst this
      exact List.mem_append_right _ h
theorem raw_at {ls : List Link} {part : Int} {p : Port} : ∀ {n : Nat}, p ∈ rawN ls part n → ∃ i, i < n ∧ p ∈ portsAt (ls.getD i default) i part
  | 0, h => absurd h (List.not_mem_nil)
  | n + 1, h => by
    rw [rawN] at h
    rcases List.mem_append.1 h with h | h
    · obtain ⟨i, hi, h1⟩ := raw_at h
      exact ⟨i, by omega, h1⟩
    · exact ⟨n, by omega, h⟩
theorem portQ_check {c : Config} {part node : Int} {p : Port} (h : portQ c part node = some p) : (checkP c).1 = 0 := by
  unfold portQ at h
  split at h
  · rename_i hh; exact hh.1
  · cases h
theorem portQ_of_raw {c : Config} (hc : (checkP c).1 = 0) {part : Int} {p : Port} (hp : p ∈ rawN c.links part c.links.length) : portQ c part p.node = some p := (mem_portsOf c part p).1 ((portsOf_perm hc part).mem_iff.1 hp)
theorem raw_of_portQ {c : Config} {part node : Int} {p : Port} (h : portQ c part node = some p) : p ∈ rawN c.links part c.links.length := by
  have e := portQ_node h
  subst e
  exact (portsOf_perm (portQ_check h) part).mem_iff.2 ((mem_portsOf c part p).2 h)
theorem far_of {c : Config} {part node : Int} {p : Port} (h : portQ c part node = some p) : farQ c part node = some (if p.side = 0 then ((c.links.getD p.link.toNat default).b, if p.gate = 0 then (c.links.getD p.link.toNat default).pb0 else (c.links.getD p.link.toNat default).pb1) else ((c.links.getD p.link.toNat default).a, if p.gate = 0 then (c.links.getD p.link.toNat default).pa0 else (c.links.getD p.link.toNat default).pa1)) := by
  unfold farQ
  rw [h]
/-- of a port's other side the other side is the port. -/
theorem far_back {c : Config} {part node : Int} {p : Port} (hp : portQ c part node = some p) : ∃ a b : Int, farQ c part node = some (a, b) ∧ portQ c a b = some ⟨b, p.link, p.gate, 1 - p.side⟩ ∧ farQ c a b = some (part, node) ∧ a ≠ part := by
  have hc := portQ_check hp
  have hn := portQ_node hp
  obtain ⟨i, hi, hm⟩ := raw_at (raw_of_portQ hp)
  have hl := (good_link (good_of hc) hi).1
  generalize hL : c.links.getD i default = l at hm hl
  have fin : ∀ (a b g s : Int), p = ⟨node, i, g, s⟩ → (∀ q : Port, q = ⟨b, i, g, 1 - s⟩ → q ∈ portsAt l i a) → (if s = 0 then (l.b, if g = 0 then l.pb0 else l.pb1) else (l.a, if g = 0 then l.pa0 else l.pa1)) = (a, b) → (if 1 - s = 0 then (l.b, if g = 0 then l.pb0 else l.pb1) else (l.a, if g = 0 then l.pa0 else l.pa1)) = (part, node) → a ≠ part → ∃ a b : Int, farQ c part node = some (a, b) ∧ portQ c a b = some ⟨b, p.link, p.gate, 1 - p.side⟩ ∧ farQ c a b = some (part, node) ∧ a ≠ part := by
    intro a b g s hps hq h1 h2 hne
    have hq' := portQ_of_raw hc (part := a) (raw_mem hi (by rw [hL]; exact hq ⟨b, i, g, 1 - s⟩ rfl))
    refine ⟨a, b, ?_, ?_, ?_, hne⟩
    · rw [far_of hp, hps]
      dsimp only
      rw [Int.toNat_natCast, hL, h1]
    · rw [hps]; exact hq'
    · rw [far_of hq']
      dsimp only
      rw [Int.toNat_natCast, hL, h2]
  unfold portsAt at hm
  rcases List.mem_append.1 hm with hm | hm
  · split at hm
    · rename_i hla
      simp only [List.mem_cons, List.not_mem_nil, or_false] at hm
      rcases hm with rfl | rfl
      · dsimp only at hn
        subst hn
        exact fin l.b l.pb0 0 0 rfl (fun q hq => by unfold portsAt; simp [hq]) (by simp) (by simp [hla]) (by omega)
      · dsimp only at hn
        subst hn
        exact fin l.b l.pb1 1 0 rfl (fun q hq => by unfold portsAt; simp [hq]) (by simp) (by simp [hla]) (by omega)
    · cases hm
  · split at hm
    · rename_i hlb
      simp only [List.mem_cons, List.not_mem_nil, or_false] at hm
      rcases hm with rfl | rfl
      · dsimp only at hn
        subst hn
        exact fin l.a l.pa0 0 1 rfl (fun q hq => by unfold portsAt; simp [hq]) (by simp) (by simp [hlb]) (by omega)
      · dsimp only at hn
        subst hn
        exact fin l.a l.pa1 1 1 rfl (fun q hq => by unfold portsAt; simp [hq]) (by simp) (by simp [hlb]) (by omega)
    · cases hm
theorem far_none {c : Config} {part node : Int} (h : (farQ c part node).isSome = false) : portQ c part node = none := by
  cases hx : portQ c part node with
  | none => rfl
  | some p => rw [far_of hx] at h; cases h
theorem port_some {c : Config} {part node : Int} (h : (farQ c part node).isSome = true) : ∃ p, portQ c part node = some p := by
  cases hx : portQ c part node with
  | none => unfold farQ at h; rw [hx] at h; cases h
  | some p => exact ⟨p, rfl⟩
theorem drumlinelaw5_PlanFar_pc (e : Nat → Addr) (hA : Apart e) (n part node : Int) (c : Config) (hM : PC Tryd.prog (errG2 e) 24 [I n] (· = D.r (Config.d c))) (hp0 : c.parts.length < 1000000) (hl0 : c.links.length < 1000000) : PC Tryd.prog (errG2 e) 5 [I n, I part, I node] (· = D.v (.bool true)) := by
  refine PC.of (N := 100) Tryd.func5 rfl rfl (Nat.le_of_ble_eq_true rfl) ?_
  refine PW.seq ?_
  refine PW.region ?_
  refine PL.rowK 1 [0, 1, 2] 0 (s' := { tab := [⟨0, [], I n⟩, ⟨1, [], I part⟩, ⟨2, [], I node⟩], mem := [], gl := (errG2 e) }) (p := True) (by kernel_rfl) (by trivial) ?_
  refine PL.nil ?_
  show PW _ _ _ _ _
  refine PW.seq ?_
  refine PW.seq ?_
  refine PW.region ?_
  refine PL.gcall (A := []) (f := 12) (ds := []) (by kernel_rfl) (by kernel_rfl) (by kernel_rfl) (by kernel_rfl) (by kernel_rfl) rfl (D.v (.bool true)) (fun _ => drumlinelaw5_alive_pc e hA) ?_
  refine PL.rowK 1 [0, 1, 2, 19] 0 (s' := { tab := [⟨0, [], I n⟩, ⟨1, [], I part⟩, ⟨2, [], I node⟩, ⟨19, [], D.v (.bool false)⟩], mem := [], gl := (errG2 e) }) (p := True) (by kernel_rfl) (by trivial) ?_
  refine PL.nil ?_
  show PW _ _ _ _ _
  refine PW.cond (z := false) (by kernel_rfl) (fun hz0 => by cases hz0) (fun hz0 => ?_)
  refine PW.skip ?_
  show PW _ _ _ _ _
  refine PW.seq ?_
  refine PW.region ?_
  refine PL.rowK 1 [1, 2, 20] 0 (s' := { tab := [⟨1, [], I part⟩, ⟨2, [], I node⟩, ⟨20, [], I n⟩], mem := [], gl := (errG2 e) }) (p := True) (by kernel_rfl) (by trivial) ?_
  refine PL.gcall (A := []) (f := 24) (ds := [I n]) (by kernel_rfl) (by kernel_rfl) (by kernel_rfl) (by kernel_rfl) (by kernel_rfl) rfl (D.r (Config.d c)) (fun _ => hM) ?_
  refine PL.rowK 2 [1, 2, 7] 1 (s' := { tab := [⟨1, [], I part⟩, ⟨2, [], I node⟩, ⟨7, [], D.p 0 0 0 0⟩], mem := [Obj.var 25 (Config.d c)], gl := (errG2 e) }) (p := True) (by kernel_rfl) (by trivial) ?_
  refine PL.nil ?_
  show PW _ _ _ _ _
  refine PW.seq ?_
  refine PW.region ?_
  refine PL.rowK 3 [1, 2, 7, 23, 24, 25] 1 (s' := { tab := [⟨1, [], I part⟩, ⟨2, [], I node⟩, ⟨7, [], D.p 0 0 0 0⟩, ⟨23, [], D.r (Config.d c)⟩, ⟨24, [], I part⟩, ⟨25, [], I node⟩], mem := [Obj.var 25 (Config.d c)], gl := (errG2 e) }) (p := True) (by kernel_rfl) (by trivial) ?_
  refine PL.gcall (A := []) (f := 19) (ds := [D.r (Config.d c), I part, I node]) (by kernel_rfl) (by kernel_rfl) (by kernel_rfl) (by kernel_rfl) (by kernel_rfl) rfl (D.t [I (((farQ c part node).getD (0, 0)).1), I (((farQ c part node).getD (0, 0)).2), D.v (.bool ((farQ c part node).isSome))]) (fun _ => plan_Far_pc e c part node hp0 hl0) ?_
  refine PL.rowK 7 [1, 2, 7, 8, 9, 10] 1 (s' := { tab := [⟨1, [], I part⟩, ⟨2, [], I node⟩, ⟨7, [], D.p 0 0 0 0⟩, ⟨8, [], I (((farQ c part node).getD (0, 0)).1)⟩, ⟨9, [], I (((farQ c part node).getD (0, 0)).2)⟩, ⟨10, [], D.v (.bool ((farQ c part node).isSome))⟩], mem := [Obj.var 25 (Config.d c)], gl := (errG2 e) }) (p := True) (by kernel_rfl) (by trivial) ?_
  refine PL.nil ?_
  show PW _ _ _ _ _
  refine PW.seq ?_
  refine PW.region ?_
  refine PL.rowK 3 [1, 2, 7, 8, 9, 10, 31, 32, 33] 1 (s' := { tab := [⟨1, [], I part⟩, ⟨2, [], I node⟩, ⟨7, [], D.p 0 0 0 0⟩, ⟨8, [], I (((farQ c part node).getD (0, 0)).1)⟩, ⟨9, [], I (((farQ c part node).getD (0, 0)).2)⟩, ⟨10, [], D.v (.bool ((farQ c part node).isSome))⟩, ⟨31, [], D.r (Config.d c)⟩, ⟨32, [], I part⟩, ⟨33, [], I node⟩], mem := [Obj.var 25 (Config.d c)], gl := (errG2 e) }) (p := True) (by kernel_rfl) (by trivial) ?_
  refine PL.gcall (A := []) (f := 17) (ds := [D.r (Config.d c), I part, I node]) (by kernel_rfl) (by kernel_rfl) (by kernel_rfl) (by kernel_rfl) (by kernel_rfl) rfl (D.t [D.r [I (((portQ c part node).getD ⟨0, 0, 0, 0⟩).node), I (((portQ c part node).getD ⟨0, 0, 0, 0⟩).link), I (((portQ c part node).getD ⟨0, 0, 0, 0⟩).gate), I (((portQ c part node).getD ⟨0, 0, 0, 0⟩).side)], D.v (.bool ((portQ c part node).isSome))]) (fun _ => plan_Port_pc e c part node hp0 hl0) ?_
  refine PL.rowK 6 [1, 2, 7, 8, 9, 10, 11, 12] 2 (s' := { tab := [⟨1, [], I part⟩, ⟨2, [], I node⟩, ⟨7, [], D.p 0 0 0 0⟩, ⟨8, [], I (((farQ c part node).getD (0, 0)).1)⟩, ⟨9, [], I (((farQ c part node).getD (0, 0)).2)⟩, ⟨10, [], D.v (.bool ((farQ c part node).isSome))⟩, ⟨11, [], D.p 1 0 0 0⟩, ⟨12, [], D.v (.bool ((portQ c part node).isSome))⟩], mem := [Obj.var 25 (Config.d c), Obj.var 35 [I (((portQ c part node).getD ⟨0, 0, 0, 0⟩).node), I (((portQ c part node).getD ⟨0, 0, 0, 0⟩).link), I (((portQ c part node).getD ⟨0, 0, 0, 0⟩).gate), I (((portQ c part node).getD ⟨0, 0, 0, 0⟩).side)]], gl := (errG2 e) }) (p := True) (by kernel_rfl) (by trivial) ?_
  refine PL.nil ?_
  show PW _ _ _ _ _
  refine PW.seq ?_
  refine PW.seq ?_
  refine PW.region ?_
  refine PL.rowK 2 [1, 2, 7, 8, 9, 11, 12, 38] 2 (s' := { tab := [⟨1, [], I part⟩, ⟨2, [], I node⟩, ⟨7, [], D.p 0 0 0 0⟩, ⟨8, [], I (((farQ c part node).getD (0, 0)).1)⟩, ⟨9, [], I (((farQ c part node).getD (0, 0)).2)⟩, ⟨11, [], D.p 1 0 0 0⟩, ⟨12, [], D.v (.bool ((portQ c part node).isSome))⟩, ⟨38, [], D.v (.bool (!((farQ c part node).isSome)))⟩], mem := [Obj.var 25 (Config.d c), Obj.var 35 [I (((portQ c part node).getD ⟨0, 0, 0, 0⟩).node), I (((portQ c part node).getD ⟨0, 0, 0, 0⟩).link), I (((portQ c part node).getD ⟨0, 0, 0, 0⟩).gate), I (((portQ c part node).getD ⟨0, 0, 0, 0⟩).side)]], gl := (errG2 e) }) (p := True) (by kernel_rfl) (by trivial) ?_
  refine PL.nil ?_
  show PW _ _ _ _ _
  refine PW.cond (z := (!((farQ c part node).isSome))) (by kernel_rfl) (fun hz1 => ?_) (fun hz1 => ?_)
  · skip
    try simp only [boolS, isB_true, isB_false] at hz1
    refine PW.seq ?_
    refine PW.region ?_
    refine PL.rowK 3 [6] 2 (s' := { tab := [⟨6, [], D.v (.bool (!((portQ c part node).isSome)))⟩], mem := [Obj.var 25 (Config.d c), Obj.var 35 [I (((portQ c part node).getD ⟨0, 0, 0, 0⟩).node), I (((portQ c part node).getD ⟨0, 0, 0, 0⟩).link), I (((portQ c part node).getD ⟨0, 0, 0, 0⟩).gate), I (((portQ c part node).getD ⟨0, 0, 0, 0⟩).side)]], gl := (errG2 e) }) (p := True) (by kernel_rfl) (by trivial) ?_
    refine PL.nil ?_
    show PW _ _ _ _ _
    refine PW.ret ?_
    refine retQ_ret (d := D.v (.bool (!((portQ c part node).isSome)))) (ps := []) (by kernel_rfl) trivial ?_
    rw [far_none (by simpa using hz1)]
    rfl
  · skip
    try simp only [boolS, isB_true, isB_false] at hz1
    refine PW.skip ?_
    show PW _ _ _ _ _
    refine PW.seq ?_
    refine PW.region ?_
    refine PL.rowK 3 [1, 2, 7, 8, 9, 11, 12, 42, 43, 44] 2 (s' := { tab := [⟨1, [], I part⟩, ⟨2, [], I node⟩, ⟨7, [], D.p 0 0 0 0⟩, ⟨8, [], I (((farQ c part node).getD (0, 0)).1)⟩, ⟨9, [], I (((farQ c part node).getD (0, 0)).2)⟩, ⟨11, [], D.p 1 0 0 0⟩, ⟨12, [], D.v (.bool ((portQ c part node).isSome))⟩, ⟨42, [], D.r (Config.d c)⟩, ⟨43, [], I (((farQ c part node).getD (0, 0)).1)⟩, ⟨44, [], I (((farQ c part node).getD (0, 0)).2)⟩], mem := [Obj.var 25 (Config.d c), Obj.var 35 [I (((portQ c part node).getD ⟨0, 0, 0, 0⟩).node), I (((portQ c part node).getD ⟨0, 0, 0, 0⟩).link), I (((portQ c part node).getD ⟨0, 0, 0, 0⟩).gate), I (((portQ c part node).getD ⟨0, 0, 0, 0⟩).side)]], gl := (errG2 e) }) (p := True) (by kernel_rfl) (by trivial) ?_
    refine PL.gcall (A := []) (f := 19) (ds := [D.r (Config.d c), I (((farQ c part node).getD (0, 0)).1), I (((farQ c part node).getD (0, 0)).2)]) (by kernel_rfl) (by kernel_rfl) (by kernel_rfl) (by kernel_rfl) (by kernel_rfl) rfl (D.t [I (((farQ c (((farQ c part node).getD (0, 0)).1) (((farQ c part node).getD (0, 0)).2)).getD (0, 0)).1), I (((farQ c (((farQ c part node).getD (0, 0)).1) (((farQ c part node).getD (0, 0)).2)).getD (0, 0)).2), D.v (.bool ((farQ c (((farQ c part node).getD (0, 0)).1) (((farQ c part node).getD (0, 0)).2)).isSome))]) (fun _ => plan_Far_pc e c (((farQ c part node).getD (0, 0)).1) (((farQ c part node).getD (0, 0)).2) hp0 hl0) ?_
    refine PL.rowK 7 [1, 2, 7, 8, 9, 11, 12, 13, 14, 15] 2 (s' := { tab := [⟨1, [], I part⟩, ⟨2, [], I node⟩, ⟨7, [], D.p 0 0 0 0⟩, ⟨8, [], I (((farQ c part node).getD (0, 0)).1)⟩, ⟨9, [], I (((farQ c part node).getD (0, 0)).2)⟩, ⟨11, [], D.p 1 0 0 0⟩, ⟨12, [], D.v (.bool ((portQ c part node).isSome))⟩, ⟨13, [], I (((farQ c (((farQ c part node).getD (0, 0)).1) (((farQ c part node).getD (0, 0)).2)).getD (0, 0)).1)⟩, ⟨14, [], I (((farQ c (((farQ c part node).getD (0, 0)).1) (((farQ c part node).getD (0, 0)).2)).getD (0, 0)).2)⟩, ⟨15, [], D.v (.bool ((farQ c (((farQ c part node).getD (0, 0)).1) (((farQ c part node).getD (0, 0)).2)).isSome))⟩], mem := [Obj.var 25 (Config.d c), Obj.var 35 [I (((portQ c part node).getD ⟨0, 0, 0, 0⟩).node), I (((portQ c part node).getD ⟨0, 0, 0, 0⟩).link), I (((portQ c part node).getD ⟨0, 0, 0, 0⟩).gate), I (((portQ c part node).getD ⟨0, 0, 0, 0⟩).side)]], gl := (errG2 e) }) (p := True) (by kernel_rfl) (by trivial) ?_
    refine PL.nil ?_
    show PW _ _ _ _ _
    refine PW.seq ?_
    refine PW.region ?_
    refine PL.rowK 3 [1, 2, 8, 11, 12, 13, 14, 15, 50, 51, 52] 2 (s' := { tab := [⟨1, [], I part⟩, ⟨2, [], I node⟩, ⟨8, [], I (((farQ c part node).getD (0, 0)).1)⟩, ⟨11, [], D.p 1 0 0 0⟩, ⟨12, [], D.v (.bool ((portQ c part node).isSome))⟩, ⟨13, [], I (((farQ c (((farQ c part node).getD (0, 0)).1) (((farQ c part node).getD (0, 0)).2)).getD (0, 0)).1)⟩, ⟨14, [], I (((farQ c (((farQ c part node).getD (0, 0)).1) (((farQ c part node).getD (0, 0)).2)).getD (0, 0)).2)⟩, ⟨15, [], D.v (.bool ((farQ c (((farQ c part node).getD (0, 0)).1) (((farQ c part node).getD (0, 0)).2)).isSome))⟩, ⟨50, [], D.r (Config.d c)⟩, ⟨51, [], I (((farQ c part node).getD (0, 0)).1)⟩, ⟨52, [], I (((farQ c part node).getD (0, 0)).2)⟩], mem := [Obj.var 25 (Config.d c), Obj.var 35 [I (((portQ c part node).getD ⟨0, 0, 0, 0⟩).node), I (((portQ c part node).getD ⟨0, 0, 0, 0⟩).link), I (((portQ c part node).getD ⟨0, 0, 0, 0⟩).gate), I (((portQ c part node).getD ⟨0, 0, 0, 0⟩).side)]], gl := (errG2 e) }) (p := True) (by kernel_rfl) (by trivial) ?_
    refine PL.gcall (A := []) (f := 17) (ds := [D.r (Config.d c), I (((farQ c part node).getD (0, 0)).1), I (((farQ c part node).getD (0, 0)).2)]) (by kernel_rfl) (by kernel_rfl) (by kernel_rfl) (by kernel_rfl) (by kernel_rfl) rfl (D.t [D.r [I (((portQ c (((farQ c part node).getD (0, 0)).1) (((farQ c part node).getD (0, 0)).2)).getD ⟨0, 0, 0, 0⟩).node), I (((portQ c (((farQ c part node).getD (0, 0)).1) (((farQ c part node).getD (0, 0)).2)).getD ⟨0, 0, 0, 0⟩).link), I (((portQ c (((farQ c part node).getD (0, 0)).1) (((farQ c part node).getD (0, 0)).2)).getD ⟨0, 0, 0, 0⟩).gate), I (((portQ c (((farQ c part node).getD (0, 0)).1) (((farQ c part node).getD (0, 0)).2)).getD ⟨0, 0, 0, 0⟩).side)], D.v (.bool ((portQ c (((farQ c part node).getD (0, 0)).1) (((farQ c part node).getD (0, 0)).2)).isSome))]) (fun _ => plan_Port_pc e c (((farQ c part node).getD (0, 0)).1) (((farQ c part node).getD (0, 0)).2) hp0 hl0) ?_
    refine PL.rowK 6 [1, 2, 8, 11, 12, 13, 14, 15, 16, 17] 3 (s' := { tab := [⟨1, [], I part⟩, ⟨2, [], I node⟩, ⟨8, [], I (((farQ c part node).getD (0, 0)).1)⟩, ⟨11, [], D.p 1 0 0 0⟩, ⟨12, [], D.v (.bool ((portQ c part node).isSome))⟩, ⟨13, [], I (((farQ c (((farQ c part node).getD (0, 0)).1) (((farQ c part node).getD (0, 0)).2)).getD (0, 0)).1)⟩, ⟨14, [], I (((farQ c (((farQ c part node).getD (0, 0)).1) (((farQ c part node).getD (0, 0)).2)).getD (0, 0)).2)⟩, ⟨15, [], D.v (.bool ((farQ c (((farQ c part node).getD (0, 0)).1) (((farQ c part node).getD (0, 0)).2)).isSome))⟩, ⟨16, [], D.p 2 0 0 0⟩, ⟨17, [], D.v (.bool ((portQ c (((farQ c part node).getD (0, 0)).1) (((farQ c part node).getD (0, 0)).2)).isSome))⟩], mem := [Obj.var 25 (Config.d c), Obj.var 35 [I (((portQ c part node).getD ⟨0, 0, 0, 0⟩).node), I (((portQ c part node).getD ⟨0, 0, 0, 0⟩).link), I (((portQ c part node).getD ⟨0, 0, 0, 0⟩).gate), I (((portQ c part node).getD ⟨0, 0, 0, 0⟩).side)], Obj.var 35 [I (((portQ c (((farQ c part node).getD (0, 0)).1) (((farQ c part node).getD (0, 0)).2)).getD ⟨0, 0, 0, 0⟩).node), I (((portQ c (((farQ c part node).getD (0, 0)).1) (((farQ c part node).getD (0, 0)).2)).getD ⟨0, 0, 0, 0⟩).link), I (((portQ c (((farQ c part node).getD (0, 0)).1) (((farQ c part node).getD (0, 0)).2)).getD ⟨0, 0, 0, 0⟩).gate), I (((portQ c (((farQ c part node).getD (0, 0)).1) (((farQ c part node).getD (0, 0)).2)).getD ⟨0, 0, 0, 0⟩).side)]], gl := (errG2 e) }) (p := True) (by kernel_rfl) (by trivial) ?_
    refine PL.nil ?_
    show PW _ _ _ _ _
    refine PW.seq ?_
    refine PW.region ?_
    refine PL.rowK 45 [6] 3 (s' := { tab := [⟨6, [], D.v (.bool ((((((((((portQ c part node).isSome) && ((farQ c (((farQ c part node).getD (0, 0)).1) (((farQ c part node).getD (0, 0)).2)).isSome)) && ((portQ c (((farQ c part node).getD (0, 0)).1) (((farQ c part node).getD (0, 0)).2)).isSome)) && ((((farQ c (((farQ c part node).getD (0, 0)).1) (((farQ c part node).getD (0, 0)).2)).getD (0, 0)).1) == part)) && ((((farQ c (((farQ c part node).getD (0, 0)).1) (((farQ c part node).getD (0, 0)).2)).getD (0, 0)).2) == node)) && ((((portQ c part node).getD ⟨0, 0, 0, 0⟩).link) == (((portQ c (((farQ c part node).getD (0, 0)).1) (((farQ c part node).getD (0, 0)).2)).getD ⟨0, 0, 0, 0⟩).link))) && ((((portQ c part node).getD ⟨0, 0, 0, 0⟩).gate) == (((portQ c (((farQ c part node).getD (0, 0)).1) (((farQ c part node).getD (0, 0)).2)).getD ⟨0, 0, 0, 0⟩).gate))) && ((((portQ c part node).getD ⟨0, 0, 0, 0⟩).side) == (IntKind.i64.wrap (1 - (((portQ c (((farQ c part node).getD (0, 0)).1) (((farQ c part node).getD (0, 0)).2)).getD ⟨0, 0, 0, 0⟩).side))))) && ((((farQ c part node).getD (0, 0)).1) != part)))⟩], mem := [Obj.var 25 (Config.d c), Obj.var 35 [I (((portQ c part node).getD ⟨0, 0, 0, 0⟩).node), I (((portQ c part node).getD ⟨0, 0, 0, 0⟩).link), I (((portQ c part node).getD ⟨0, 0, 0, 0⟩).gate), I (((portQ c part node).getD ⟨0, 0, 0, 0⟩).side)], Obj.var 35 [I (((portQ c (((farQ c part node).getD (0, 0)).1) (((farQ c part node).getD (0, 0)).2)).getD ⟨0, 0, 0, 0⟩).node), I (((portQ c (((farQ c part node).getD (0, 0)).1) (((farQ c part node).getD (0, 0)).2)).getD ⟨0, 0, 0, 0⟩).link), I (((portQ c (((farQ c part node).getD (0, 0)).1) (((farQ c part node).getD (0, 0)).2)).getD ⟨0, 0, 0, 0⟩).gate), I (((portQ c (((farQ c part node).getD (0, 0)).1) (((farQ c part node).getD (0, 0)).2)).getD ⟨0, 0, 0, 0⟩).side)]], gl := (errG2 e) }) (p := True) (by kernel_rfl) (by trivial) ?_
    refine PL.nil ?_
    show PW _ _ _ _ _
    refine PW.ret ?_
    refine retQ_ret (d := D.v (.bool ((((((((((portQ c part node).isSome) && ((farQ c (((farQ c part node).getD (0, 0)).1) (((farQ c part node).getD (0, 0)).2)).isSome)) && ((portQ c (((farQ c part node).getD (0, 0)).1) (((farQ c part node).getD (0, 0)).2)).isSome)) && ((((farQ c (((farQ c part node).getD (0, 0)).1) (((farQ c part node).getD (0, 0)).2)).getD (0, 0)).1) == part)) && ((((farQ c (((farQ c part node).getD (0, 0)).1) (((farQ c part node).getD (0, 0)).2)).getD (0, 0)).2) == node)) && ((((portQ c part node).getD ⟨0, 0, 0, 0⟩).link) == (((portQ c (((farQ c part node).getD (0, 0)).1) (((farQ c part node).getD (0, 0)).2)).getD ⟨0, 0, 0, 0⟩).link))) && ((((portQ c part node).getD ⟨0, 0, 0, 0⟩).gate) == (((portQ c (((farQ c part node).getD (0, 0)).1) (((farQ c part node).getD (0, 0)).2)).getD ⟨0, 0, 0, 0⟩).gate))) && ((((portQ c part node).getD ⟨0, 0, 0, 0⟩).side) == (IntKind.i64.wrap (1 - (((portQ c (((farQ c part node).getD (0, 0)).1) (((farQ c part node).getD (0, 0)).2)).getD ⟨0, 0, 0, 0⟩).side))))) && ((((farQ c part node).getD (0, 0)).1) != part)))) (ps := []) (by kernel_rfl) trivial ?_
    obtain ⟨p, hpq⟩ := port_some (by simpa using hz1)
    obtain ⟨a, b, h1, h2, h3, h4⟩ := far_back hpq
    rw [h1]
    simp only [Option.getD_some]
    rw [h2, h3, hpq]
    simp only [Option.getD_some, Option.isSome_some]
    simp
    obtain ⟨i, hi, g, s, rfl, hg, hs⟩ := portQ_form hpq
    dsimp only
    exact ⟨by rw [Ev.wrap_i64 (by omega) (by omega)]; omega, h4⟩
end Go.Proofs.YtlcjcdgmiaakjaaDoor.Pl
