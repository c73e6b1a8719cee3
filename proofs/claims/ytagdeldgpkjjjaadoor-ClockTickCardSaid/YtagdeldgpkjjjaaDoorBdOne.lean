/- Chapter 7: the document's own numbers, and package bounds', of a network in range. -/
import Derived.Test.YtagdeldgpkjjjaaDoorMdOne
import Derived.Test.YtagdeldgpkjjjaaDoorBdDef
namespace Go.Proofs.YtagdeldgpkjjjaaDoor.Pl
open Go.RowKit Go.Proofs.YtagdeldgpkjjjaaDoor.Sm Go.Proofs.YtagdeldgpkjjjaaDoor.Dp
set_option maxHeartbeats 4000000
set_option maxRecDepth 100000
set_option linter.unusedVariables false
set_option linter.unusedSimpArgs false
def slewI (c : Config) : Int := upI (c.drift * c.cycle)
def stepI (c : Config) : Int := 4 * edgeI c + 2 * slewI c + 2
def jumpI (c : Config) : Int := 2 * c.ages * stepI c + 4 * edgeI c
def tickI (c : Config) : Int := 3 * edgeI c + upI (2 * edgeI c * (c.rate + c.drift)) + 1
structure InR (c : Config) : Prop where
  cyc : 1000 ≤ c.cycle ∧ c.cycle ≤ 1000000
  dri : 0 ≤ c.drift ∧ c.drift ≤ 500
  rat : 0 ≤ c.rate ∧ c.rate ≤ 400000
  ags : 1 ≤ c.ages ∧ c.ages ≤ 200
  los : 0 ≤ c.lost ∧ c.lost ≤ 20
  dc : 0 ≤ c.drift * c.cycle ∧ c.drift * c.cycle ≤ 500000000
  dc2 : 2 * c.drift * c.cycle = 2 * (c.drift * c.cycle)
  edg : 1 ≤ edgeI c ∧ edgeI c ≤ 1001
  slw : 0 ≤ slewI c ∧ slewI c ≤ 500
  stp : 6 ≤ stepI c ∧ stepI c ≤ 5006
  asp : 0 ≤ 2 * c.ages * stepI c ∧ 2 * c.ages * stepI c ≤ 2002400
  jmp : 0 ≤ jumpI c ∧ jumpI c ≤ 2006404
  erd : 0 ≤ 2 * edgeI c * (c.rate + c.drift) ∧ 2 * edgeI c * (c.rate + c.drift) ≤ 801801000
  eru : 0 ≤ upI (2 * edgeI c * (c.rate + c.drift)) ∧ upI (2 * edgeI c * (c.rate + c.drift)) ≤ 802
  rc : 0 ≤ c.rate * c.cycle ∧ c.rate * c.cycle ≤ 400000000000
theorem inR_of {c : Config} (h : outI c = 0) : InR c := by
  obtain ⟨h1, h2, h3, h4, h5⟩ := outI_zero.1 h
  have hdc := mul_in (a := c.drift) (b := c.cycle) (A := 500) (B := 1000000) (by omega) (by omega) (by omega) (by omega)
  have e2 : 2 * c.drift * c.cycle = 2 * (c.drift * c.cycle) := Int.mul_assoc _ _ _
  have he := edgeI_in h
  have hs : 0 ≤ slewI c ∧ slewI c ≤ 500 := by
    have := upI_in hdc.1
    unfold slewI
    omega
  have hst : 6 ≤ stepI c ∧ stepI c ≤ 5006 := by unfold stepI; omega
  have has := mul_in (a := 2 * c.ages) (b := stepI c) (A := 400) (B := 5006) (by omega) (by omega) (by omega) (by omega)
  have her := mul_in (a := 2 * edgeI c) (b := c.rate + c.drift) (A := 2002) (B := 400500) (by omega) (by omega) (by omega) (by omega)
  have hrc := mul_in (a := c.rate) (b := c.cycle) (A := 400000) (B := 1000000) (by omega) (by omega) (by omega) (by omega)
  have hu := upI_in her.1
  exact ⟨h1, h2, h3, h4, h5, by omega, e2, he, hs, hst, by omega, by unfold jumpI; omega, by omega, by omega, by omega⟩
theorem ticks_Ceil_pc (n : Int) (h0 : 0 ≤ n) (h1 : n ≤ 4611686018427387904) : PC Tryd.prog [] 34 [I n, I 1000000] (· = D.t [I (upI n), D.v (.bool true)]) := by
 refine PC.of (N := 19) Tryd.func34 rfl rfl (Nat.le_of_ble_eq_true rfl) ?_
 refine PW.sr [0, 1] 0 trivial ?_
 refine PW.seq ?_
 refine PW.sr [0, 1, 8] 0 trivial ?_
 refine PW.cd false (fun hz0 => by cases hz0) (fun hz0 => ?_)
 refine PW.skip ?_
 show PW _ _ _ _ _
 refine PW.sg ?_
 refine PL.row 4 [0, 1, 6] 0 (s' := { tab := [⟨0, [], I n⟩, ⟨1, [], I 1000000⟩, ⟨6, [], I (IntKind.i64.wrap (n.tdiv 1000000))⟩], mem := [] }) (p := True) (by kernel_rfl) (by kernel_rfl) (by kernel_rfl) (by kernel_rfl) (by kernel_rfl) trivial ?_
 refine PL.eq (s' := { tab := [⟨0, [], I n⟩, ⟨1, [], I 1000000⟩, ⟨6, [], I (n.tdiv 1000000)⟩], mem := [] }) (by rw [wrap_tdiv h0 h1]) ?_
 refine PL.nl ?_
 refine PW.seq ?_
 refine PW.sr [6, 15] 0 trivial ?_
 refine PW.cd (decide ((n.tmod 1000000) > (0 : Int))) (fun hz1 => ?_) (fun hz1 => ?_)
 ·try simp only [boolS, isB_true, isB_false] at hz1
  refine PW.region ?_
  refine PL.row 3 [6] 0 (s' := { tab := [⟨6, [], I (IntKind.i64.wrap ((n.tdiv 1000000) + 1))⟩], mem := [] }) (p := True) (by kernel_rfl) (by kernel_rfl) (by kernel_rfl) (by kernel_rfl) (by kernel_rfl) trivial ?_
  refine PL.eq (s' := { tab := [⟨6, [], I (n.tdiv 1000000 + 1)⟩], mem := [] }) (by rw [wrap_tdiv1 h0 h1]) ?_
  refine PL.nil ?_
  show PW _ _ _ _ _
  refine PW.sr [4, 5] 0 trivial ?_
  refine PW.ret ?_
  refine retQ_ret (d := D.t [I (n.tdiv 1000000 + 1), D.v (.bool true)]) (ps := []) (by kernel_rfl) trivial ?_
  unfold upI
  rw [if_pos (by omega)]
 ·try simp only [boolS, isB_true, isB_false] at hz1
  refine PW.skip ?_
  show PW _ _ _ _ _
  refine PW.sr [4, 5] 0 trivial ?_
  refine PW.ret ?_
  refine retQ_ret (d := D.t [I (n.tdiv 1000000), D.v (.bool true)]) (ps := []) (by kernel_rfl) trivial ?_
  unfold upI
  rw [if_neg (by omega)]
theorem bounds_millionths_pc (n : Int) (h0 : 0 ≤ n) (h1 : n ≤ 4611686018427387904) : PC Tryd.prog [] 28 [I n] (· = I (upI n)) := by
 refine PC.of (N := 11) Tryd.func28 rfl rfl (Nat.le_of_ble_eq_true rfl) ?_
 refine PW.sr [0] 0 trivial ?_
 refine PW.sg ?_
 refine PL.rw 1 [6] 0 trivial ?_
 refine PL.gc (A := []) (fun _ => ticks_Ceil_pc n (by omega) (by omega)) ?_
 refine PL.rw 5 [3] 0 trivial ?_
 refine PL.nl ?_
 refine PW.sr [2] 0 trivial ?_
 refine PW.ret ?_
 refine retQ_ret (d := I (upI n)) (ps := []) (by kernel_rfl) trivial ?_
 rfl
theorem bounds_edge_pc (c : Config) (h : outI c = 0) : PC Tryd.prog [] 19 [D.r (Config.d c)] (· = I (edgeI c)) := by
 refine PC.of (N := 11) Tryd.func19 rfl rfl (Nat.le_of_ble_eq_true rfl) ?_
 have hR := inR_of h
 have r1 := hR.cyc
 have r2 := hR.dri
 have r3 := hR.rat
 have r4 := hR.ags
 have r5 := hR.los
 have r6 := hR.dc
 have r7 := hR.dc2
 have r8 := hR.edg
 have r9 := hR.slw
 have r10 := hR.stp
 have r11 := hR.asp
 have r12 := hR.jmp
 have r13 := hR.erd
 have r14 := hR.eru
 have r15 := hR.rc
 have hup := upI_in (drift_cycle h).1
 have hup2 := upI_in hR.dc.1
 have hdc := drift_cycle h
 refine PW.sr [1] 1 trivial ?_
 refine PW.sg ?_
 refine PL.rw 6 [8] 1 trivial ?_
 refine PL.gc (G := []) (f := 28) (ds0 := [I (IntKind.i64.wrap ((IntKind.i64.wrap (2 * c.drift)) * c.cycle))]) (d := I (upI (2 * c.drift * c.cycle))) (A := []) (fun _ => (by rw [(show IntKind.i64.wrap ((IntKind.i64.wrap (2 * c.drift)) * c.cycle) = 2 * c.drift * c.cycle from by rw [Ev.wrap_i64 (x := 2 * c.drift) (by omega) (by omega), Ev.wrap_i64 (x := 2 * c.drift * c.cycle) (by omega) (by omega)])]; exact bounds_millionths_pc (2 * c.drift * c.cycle) (by omega) (by omega))) ?_
 refine PL.rw 2 [2] 1 trivial ?_
 refine PL.nl ?_
 refine PW.ret ?_
 refine retQ_ret (d := I (IntKind.i64.wrap ((upI (2 * c.drift * c.cycle)) + 1))) (ps := []) (by kernel_rfl) trivial ?_
 exact congrArg I (by (try simp only [IntKind.wrap_i64]); (try unfold edgeI); omega)
def nearI (c : Config) : Int := 2 * edgeI c
theorem bounds_near_pc (c : Config) (h : outI c = 0) : PC Tryd.prog [] 20 [D.r (Config.d c)] (· = I (2 * edgeI c)) := by
 refine PC.of (N := 6) Tryd.func20 rfl rfl (Nat.le_of_ble_eq_true rfl) ?_
 have hR := inR_of h
 have r1 := hR.cyc
 have r2 := hR.dri
 have r3 := hR.rat
 have r4 := hR.ags
 have r5 := hR.los
 have r6 := hR.dc
 have r7 := hR.dc2
 have r8 := hR.edg
 have r9 := hR.slw
 have r10 := hR.stp
 have r11 := hR.asp
 have r12 := hR.jmp
 have r13 := hR.erd
 have r14 := hR.eru
 have r15 := hR.rc
 have hup := upI_in (drift_cycle h).1
 have hup2 := upI_in hR.dc.1
 have hdc := drift_cycle h
 refine PW.sr [1] 1 trivial ?_
 refine PW.sg ?_
 refine PL.rw 1 [3] 1 trivial ?_
 refine PL.gc (A := []) (fun _ => bounds_edge_pc c h) ?_
 refine PL.rw 2 [2] 1 trivial ?_
 refine PL.nl ?_
 refine PW.ret ?_
 refine retQ_ret (d := I (IntKind.i64.wrap (2 * (edgeI c)))) (ps := []) (by kernel_rfl) trivial ?_
 exact congrArg I (by simp only [IntKind.wrap_i64]; omega)
theorem bounds_tick_pc (c : Config) (h : outI c = 0) : PC Tryd.prog [] 22 [D.r (Config.d c)] (· = I (tickI c)) := by
 refine PC.of (N := 19) Tryd.func22 rfl rfl (Nat.le_of_ble_eq_true rfl) ?_
 have hR := inR_of h
 have r1 := hR.cyc
 have r2 := hR.dri
 have r3 := hR.rat
 have r4 := hR.ags
 have r5 := hR.los
 have r6 := hR.dc
 have r7 := hR.dc2
 have r8 := hR.edg
 have r9 := hR.slw
 have r10 := hR.stp
 have r11 := hR.asp
 have r12 := hR.jmp
 have r13 := hR.erd
 have r14 := hR.eru
 have r15 := hR.rc
 have hup := upI_in (drift_cycle h).1
 have hup2 := upI_in hR.dc.1
 have hdc := drift_cycle h
 refine PW.sr [1] 1 trivial ?_
 refine PW.seq ?_
 refine PW.open [] (by kernel_rfl) ?_
 refine PO.tk [0, 2, 5, 7, 8, 9, 10, 11] 17 [3, 5, 8, 14] 9 trivial (fun _ _ h => h) ?_
 refine PO.one (n := 8) 1 (by kernel_rfl) ?_
 refine PO1.gc _ (A := []) (fun _ => bounds_near_pc c h) ?_ rfl
 refine PO.one (n := 7) 3 (by kernel_rfl) ?_
 refine PO1.gc _ (A := []) (fun _ => bounds_edge_pc c h) ?_ rfl
 refine PO.tk [4] 7 [7, 8, 14] 6 trivial (fun _ _ h => h) ?_
 refine PO.one (n := 5) 6 (by kernel_rfl) ?_
 refine PO1.gc _ (A := []) (fun _ => bounds_near_pc c h) ?_ rfl
 refine PO.tk [12] 5 [7, 15] 4 trivial (fun _ _ h => h) ?_
 refine PO.one (n := 3) 13 (by kernel_rfl) ?_
 refine PO1.gc _ (G := []) (f := 28) (ds0 := [I (IntKind.i64.wrap ((2 * edgeI c) * (IntKind.i64.wrap (c.rate + c.drift))))]) (d := I (upI (2 * edgeI c * (c.rate + c.drift)))) (A := []) (fun _ => (by rw [(show IntKind.i64.wrap ((2 * edgeI c) * (IntKind.i64.wrap (c.rate + c.drift))) = 2 * edgeI c * (c.rate + c.drift) from by rw [Ev.wrap_i64 (x := c.rate + c.drift) (by omega) (by omega), Ev.wrap_i64 (x := 2 * edgeI c * (c.rate + c.drift)) (by omega) (by omega)])]; exact bounds_millionths_pc (2 * edgeI c * (c.rate + c.drift)) (by omega) (by omega))) ?_ rfl
 refine PO.tk [14, 15, 16] 3 [2] 0 trivial (fun _ _ h => h) ?_
 refine PO.done (by kernel_rfl) ?_
 show PW _ _ _ _ _
 refine PW.ret ?_
 refine retQ_ret (d := I (IntKind.i64.wrap ((IntKind.i64.wrap ((IntKind.i64.wrap ((2 * edgeI c) + (edgeI c))) + (upI (2 * edgeI c * (c.rate + c.drift))))) + 1))) (ps := []) (by kernel_rfl) trivial ?_
 exact congrArg I (by (try simp only [IntKind.wrap_i64]); (try unfold tickI); omega)
def slewR (c : Config) : Int := if rangedB c = true then slewI c else 0
def stepR (c : Config) : Int := if rangedB c = true then stepI c else 0
def jumpR (c : Config) : Int := if rangedB c = true then jumpI c else 0
def tickR (c : Config) : Int := if rangedB c = true then tickI c else 0
def goneR (c : Config) : Int := if rangedB c = true then c.ages + 1 else 0
theorem drumlineref5_Near_pc (c : Config) (hp0 : c.parts.length < 1000000) (hl0 : c.links.length < 1000000) : PC Tryd.prog [] 10 [D.r (Config.d c)] (· = I (2 * edgeR c)) := by
 refine PC.of (N := 6) Tryd.func10 rfl rfl (Nat.le_of_ble_eq_true rfl) ?_
 refine PW.sr [1] 1 trivial ?_
 refine PW.sg ?_
 refine PL.rw 1 [3] 1 trivial ?_
 refine PL.gc (A := []) (fun _ => drumlineref5_Edge_pc c hp0 hl0) ?_
 refine PL.rw 2 [2] 1 trivial ?_
 refine PL.nl ?_
 refine PW.ret ?_
 refine retQ_ret (d := I (IntKind.i64.wrap (2 * (edgeR c)))) (ps := []) (by kernel_rfl) trivial ?_
 have := edgeR_in c
 exact congrArg I (by simp only [IntKind.wrap_i64]; omega)
end Go.Proofs.YtagdeldgpkjjjaaDoor.Pl
