/- Several texts in one: BdDef BdOne BdTwo BdThree. -/
import Derived.Test.YtdomlccfjnkbjaaGreatDoorPlTwelve
import Derived.Test.YtdomlccfjnkbjaaGreatDoorFrEncM
import Derived.Test.YtdomlccfjnkbjaaGreatDoorMdA
import Derived.Test.YtdomlccfjnkbjaaGreatDoorDpC
import Derived.Test.YtdomlccfjnkbjaaGreatDoorPlS
namespace Go.Proofs.YtdomlccfjnkbjaaGreatDoor.Pl
open Go.RowKit Go.Proofs.YtdomlccfjnkbjaaGreatDoor.Sm Go.Proofs.YtdomlccfjnkbjaaGreatDoor.Dp
def errG3 (e:Nat→Addr):List (Nat×List D):=(4,[sentD e 7])::errG2 e
theorem errG3_sub (e:Nat→Addr):∀ x ∈ errG2 e,x ∈ errG3 e:=fun _ hx=>List.mem_cons_of_mem _ hx
theorem errG3_range (e:Nat→Addr):(4,[sentD e 7]) ∈ errG3 e := .head _
theorem errG3_type (e:Nat→Addr):(12,[D.v (.iface 210 (.agg #[.pointer (some ⟨14,112,none⟩)]))]) ∈ errG3 e:=errG3_sub e _ (errG2_type e)
set_option maxHeartbeats 4000000
set_option maxRecDepth 100000
set_option linter.unusedVariables false
set_option linter.unusedSimpArgs false
def slewI (c:Config):Int:=upI (c.drift*c.cycle)
def stepI (c:Config):Int:=4*edgeI c+2*slewI c+2
def jumpI (c:Config):Int:=2*c.ages*stepI c+4*edgeI c
structure InR (c:Config):Prop where
 cyc:1000≤c.cycle∧c.cycle≤1000000
 dri:0≤c.drift∧c.drift≤500
 rat:0≤c.rate∧c.rate≤400000
 ags:1≤c.ages∧c.ages≤200
 los:0≤c.lost∧c.lost≤20
 dc:0≤c.drift*c.cycle∧c.drift*c.cycle≤500000000
 dc2:2*c.drift*c.cycle=2*(c.drift*c.cycle)
 edg:1≤edgeI c∧edgeI c≤1001
 slw:0≤slewI c∧slewI c≤500
 stp:6≤stepI c∧stepI c≤5006
 asp:0≤2*c.ages*stepI c∧2*c.ages*stepI c≤2002400
 jmp:0≤jumpI c∧jumpI c≤2006404
 erd:0≤2*edgeI c*(c.rate+c.drift)∧2*edgeI c*(c.rate+c.drift)≤801801000
 eru:0≤upI (2*edgeI c*(c.rate+c.drift))∧upI (2*edgeI c*(c.rate+c.drift))≤802
 rc:0≤c.rate*c.cycle∧c.rate*c.cycle≤400000000000
theorem inR_of {c:Config} (h:outI c=0):InR c:=by
 obtain ⟨h1,h2,h3,h4,h5⟩:=outI_zero.1 h
 have hdc:=mul_in (a:=c.drift) (b:=c.cycle) (A:=500) (B:=1000000) oM oM oM oM
 have e2:2*c.drift*c.cycle=2*(c.drift*c.cycle):=Int.mul_assoc _ _ _
 have he:=edgeI_in h
 have hs:0≤slewI c∧slewI c≤500:=by
  have:=upI_in hdc.1
  unfold slewI
  omega
 have hst:6≤stepI c∧stepI c≤5006:=by unfold stepI; omega
 have has:=mul_in (a:=2*c.ages) (b:=stepI c) (A:=400) (B:=5006) oM oM oM oM
 have her:=mul_in (a:=2*edgeI c) (b:=c.rate+c.drift) (A:=2002) (B:=400500) oM oM oM oM
 have hrc:=mul_in (a:=c.rate) (b:=c.cycle) (A:=400000) (B:=1000000) oM oM oM oM
 have hu:=upI_in her.1
 exact ⟨h1,h2,h3,h4,h5,by omega,e2,he,hs,hst,by omega,by unfold jumpI; omega,by omega,by omega,by omega⟩
theorem ticks_Ceil_pc (n:Int) (h0:0≤n) (h1:n≤4611686018427387904):PC Tryz.prog [] 200 [I n,I 1000000] (· = D.t [I (upI n),D.v (.bool true)]):=by
 refine PC.of (N:=19) Tryz.func200 rfl rfl (Nat.le_of_ble_eq_true rfl) ?_
 refine PW.a [0,1] 0 (PW.q [0,1,8] 0 (PW.cd false (fun hz0=>by cases hz0) (fun hz0 => ?_)))
 refine PW.k (PW.sg (PL.row 4 [0,1,6] 0 (s':={ tab:=[⟨0,[],I n⟩,⟨1,[],I 1000000⟩,⟨6,[],I (IntKind.i64.wrap (n.tdiv 1000000))⟩],mem:=[] }) (p:=True) kR kR kR kR kR trivial (PL.eq (s':={ tab:=[⟨0,[],I n⟩,⟨1,[],I 1000000⟩,⟨6,[],I (n.tdiv 1000000)⟩],mem:=[] }) (by rw [wrap_tdiv h0 h1]) (PL.nl (PW.q [6,15] 0 (PW.cd (decide ((n.tmod 1000000)>(0:Int))) ?_ ?_)))))) <;> intro hz1 <;> try simp only [boolS,isB_true,isB_false] at hz1
 ·refine PW.region (PL.row 3 [6] 0 (s':={ tab:=[⟨6,[],I (IntKind.i64.wrap ((n.tdiv 1000000)+1))⟩],mem:=[] }) (p:=True) kR kR kR kR kR trivial (PL.eq (s':={ tab:=[⟨6,[],I (n.tdiv 1000000+1)⟩],mem:=[] }) (by rw [wrap_tdiv1 h0 h1]) (PL.nil ?_)))
  show PW _ _ _ _ _
  refine PW.t [4,5] 0 (rq (D.t [I (n.tdiv 1000000+1),D.v (.bool true)]) ?_)
  unfold upI
  rw [if_pos oM]
 ·refine PW.k (PW.t [4,5] 0 (rq (D.t [I (n.tdiv 1000000),D.v (.bool true)]) ?_))
  unfold upI
  rw [if_neg oM]
theorem bounds_millionths_pc (n:Int) (h0:0≤n) (h1:n≤4611686018427387904):PC Tryz.prog [] 196 [I n] (· = I (upI n)):=by
 refine PC.of (N:=11) Tryz.func196 rfl rfl (Nat.le_of_ble_eq_true rfl) ?_
 refine PW.a [0] 0 (PW.w 1 [6] 0 (PL.gc (A:=[]) (fun _=>ticks_Ceil_pc n oM oM) (PL.n 5 [3] 0 (PW.t [2] 0 (rq (I (upI n)) ?_)))))
 rfl
theorem bounds_edge_pc (c:Config) (h:outI c=0):PC Tryz.prog [] 186 [D.r (Config.d c)] (· = I (edgeI c)):=by
 refine PC.of (N:=11) Tryz.func186 rfl rfl (Nat.le_of_ble_eq_true rfl) ?_
 have hR:=inR_of h
 have r1:=hR.cyc
 have r2:=hR.dri
 have r3:=hR.rat
 have r4:=hR.ags
 have r5:=hR.los
 have r6:=hR.dc
 have r7:=hR.dc2
 have r8:=hR.edg
 have r9:=hR.slw
 have r10:=hR.stp
 have r11:=hR.asp
 have r12:=hR.jmp
 have r13:=hR.erd
 have r14:=hR.eru
 have r15:=hR.rc
 have hup:=upI_in (drift_cycle h).1
 have hup2:=upI_in hR.dc.1
 have hdc:=drift_cycle h
 refine PW.a [1] 1 (PW.w 6 [8] 1 (PL.gc (G:=[]) (f:=196) (ds0:=[I (IntKind.i64.wrap ((IntKind.i64.wrap (2*c.drift))*c.cycle))]) (d:=I (upI (2*c.drift*c.cycle))) (A:=[]) (fun _=>(by rw [(show IntKind.i64.wrap ((IntKind.i64.wrap (2*c.drift))*c.cycle)=2*c.drift*c.cycle from by rw [Ev.wrap_i64 (x:=2*c.drift) oM oM,Ev.wrap_i64 (x:=2*c.drift*c.cycle) oM oM])]; exact bounds_millionths_pc (2*c.drift*c.cycle) oM oM)) (PL.n 2 [2] 1 (PW.ret (rq (I (IntKind.i64.wrap ((upI (2*c.drift*c.cycle))+1))) ?_)))))
 exact congrArg I (by (try simp only [IntKind.wrap_i64]); (try unfold edgeI); omega)
theorem bounds_near_pc (c:Config) (h:outI c=0):PC Tryz.prog [] 185 [D.r (Config.d c)] (· = I (2*edgeI c)):=by
 refine PC.of (N:=6) Tryz.func185 rfl rfl (Nat.le_of_ble_eq_true rfl) ?_
 have hR:=inR_of h
 have r1:=hR.cyc
 have r2:=hR.dri
 have r3:=hR.rat
 have r4:=hR.ags
 have r5:=hR.los
 have r6:=hR.dc
 have r7:=hR.dc2
 have r8:=hR.edg
 have r9:=hR.slw
 have r10:=hR.stp
 have r11:=hR.asp
 have r12:=hR.jmp
 have r13:=hR.erd
 have r14:=hR.eru
 have r15:=hR.rc
 have hup:=upI_in (drift_cycle h).1
 have hup2:=upI_in hR.dc.1
 have hdc:=drift_cycle h
 refine PW.a [1] 1 (PW.w 1 [3] 1 (PL.gc (A:=[]) (fun _=>bounds_edge_pc c h) (PL.n 2 [2] 1 (PW.ret (rq (I (IntKind.i64.wrap (2*(edgeI c)))) ?_)))))
 exact congrArg I (by simp only [IntKind.wrap_i64]; omega)
theorem bounds_slew_pc (c:Config) (h:outI c=0):PC Tryz.prog [] 201 [D.r (Config.d c)] (· = I (slewI c)):=by
 refine PC.of (N:=9) Tryz.func201 rfl rfl (Nat.le_of_ble_eq_true rfl) ?_
 have hR:=inR_of h
 have r1:=hR.cyc
 have r2:=hR.dri
 have r3:=hR.rat
 have r4:=hR.ags
 have r5:=hR.los
 have r6:=hR.dc
 have r7:=hR.dc2
 have r8:=hR.edg
 have r9:=hR.slw
 have r10:=hR.stp
 have r11:=hR.asp
 have r12:=hR.jmp
 have r13:=hR.erd
 have r14:=hR.eru
 have r15:=hR.rc
 have hup:=upI_in (drift_cycle h).1
 have hup2:=upI_in hR.dc.1
 have hdc:=drift_cycle h
 refine PW.a [1] 1 (PW.w 5 [7] 1 (PL.gc (G:=[]) (f:=196) (ds0:=[I (IntKind.i64.wrap (c.drift*c.cycle))]) (d:=I (upI (c.drift*c.cycle))) (A:=[]) (fun _=>(by rw [(show IntKind.i64.wrap (c.drift*c.cycle)=c.drift*c.cycle from by rw [Ev.wrap_i64 (x:=c.drift*c.cycle) oM oM])]; exact bounds_millionths_pc (c.drift*c.cycle) oM oM)) (PL.n 1 [2] 1 (PW.ret (rq (I (upI (c.drift*c.cycle))) ?_)))))
 exact congrArg I (by (try simp only [IntKind.wrap_i64]); (try unfold slewI); omega)
theorem drumlineref5_slew_pc (c:Config) (h:outI c=0):PC Tryz.prog [] 180 [D.r (Config.d c)] (· = I (slewI c)):=by
 refine PC.of (N:=9) Tryz.func180 rfl rfl (Nat.le_of_ble_eq_true rfl) ?_
 have hR:=inR_of h
 have r1:=hR.cyc
 have r2:=hR.dri
 have r3:=hR.rat
 have r4:=hR.ags
 have r5:=hR.los
 have r6:=hR.dc
 have r7:=hR.dc2
 have r8:=hR.edg
 have r9:=hR.slw
 have r10:=hR.stp
 have r11:=hR.asp
 have r12:=hR.jmp
 have r13:=hR.erd
 have r14:=hR.eru
 have r15:=hR.rc
 have hup:=upI_in (drift_cycle h).1
 have hup2:=upI_in hR.dc.1
 have hdc:=drift_cycle h
 refine PW.a [1] 1 (PW.w 5 [7] 1 (PL.gc (G:=[]) (f:=75) (ds0:=[I (IntKind.i64.wrap (c.drift*c.cycle))]) (d:=I (upI (c.drift*c.cycle))) (A:=[]) (fun _=>(by rw [(show IntKind.i64.wrap (c.drift*c.cycle)=c.drift*c.cycle from by rw [Ev.wrap_i64 (x:=c.drift*c.cycle) oM oM])]; exact drumlineref5_up_pc (c.drift*c.cycle) oM oM)) (PL.n 1 [2] 1 (PW.ret (rq (I (upI (c.drift*c.cycle))) ?_)))))
 exact congrArg I (by (try simp only [IntKind.wrap_i64]); (try unfold slewI); omega)
theorem bounds_step_pc (c:Config) (h:outI c=0):PC Tryz.prog [] 197 [D.r (Config.d c)] (· = I (stepI c)):=by
 refine PC.of (N:=11) Tryz.func197 rfl rfl (Nat.le_of_ble_eq_true rfl) ?_
 have hR:=inR_of h
 have r1:=hR.cyc
 have r2:=hR.dri
 have r3:=hR.rat
 have r4:=hR.ags
 have r5:=hR.los
 have r6:=hR.dc
 have r7:=hR.dc2
 have r8:=hR.edg
 have r9:=hR.slw
 have r10:=hR.stp
 have r11:=hR.asp
 have r12:=hR.jmp
 have r13:=hR.erd
 have r14:=hR.eru
 have r15:=hR.rc
 have hup:=upI_in (drift_cycle h).1
 have hup2:=upI_in hR.dc.1
 have hdc:=drift_cycle h
 refine PW.a [1] 1 (PW.seq (PW.open [] kR ?_))
 refine PO.a [0,3] 9 [3,6] 7 (PO.one (n:=6) 1 kR ?_)
 refine PO1.gc _ (A:=[]) (fun _=>bounds_near_pc c h) ?_ rfl
 refine PO.a [2] 6 [5,6] 5 (PO.one (n:=4) 4 kR ?_)
 refine PO1.gc _ (A:=[]) (fun _=>bounds_slew_pc c h) ?_ rfl
 refine PO.a [5,6,7,8] 4 [2] 0 (PO.done kR ?_)
 show PW _ _ _ _ _
 refine PW.ret (rq (I (IntKind.i64.wrap ((IntKind.i64.wrap ((IntKind.i64.wrap (2*(2*edgeI c)))+(IntKind.i64.wrap (2*(slewI c)))))+2))) ?_)
 exact congrArg I (by (try simp only [IntKind.wrap_i64]); (try unfold stepI); omega)
theorem drumlineref5_step_pc (c:Config) (h:outI c=0):PC Tryz.prog [] 164 [D.r (Config.d c)] (· = I (stepI c)):=by
 refine PC.of (N:=11) Tryz.func164 rfl rfl (Nat.le_of_ble_eq_true rfl) ?_
 have hR:=inR_of h
 have r1:=hR.cyc
 have r2:=hR.dri
 have r3:=hR.rat
 have r4:=hR.ags
 have r5:=hR.los
 have r6:=hR.dc
 have r7:=hR.dc2
 have r8:=hR.edg
 have r9:=hR.slw
 have r10:=hR.stp
 have r11:=hR.asp
 have r12:=hR.jmp
 have r13:=hR.erd
 have r14:=hR.eru
 have r15:=hR.rc
 have hup:=upI_in (drift_cycle h).1
 have hup2:=upI_in hR.dc.1
 have hdc:=drift_cycle h
 refine PW.a [1] 1 (PW.seq (PW.open [] kR ?_))
 refine PO.a [0,3] 9 [3,6] 7 (PO.one (n:=6) 1 kR ?_)
 refine PO1.gc _ (A:=[]) (fun _=>drumlineref5_edge_pc c h) ?_ rfl
 refine PO.a [2] 6 [5,6] 5 (PO.one (n:=4) 4 kR ?_)
 refine PO1.gc _ (A:=[]) (fun _=>drumlineref5_slew_pc c h) ?_ rfl
 refine PO.a [5,6,7,8] 4 [2] 0 (PO.done kR ?_)
 show PW _ _ _ _ _
 refine PW.ret (rq (I (IntKind.i64.wrap ((IntKind.i64.wrap ((IntKind.i64.wrap (4*(edgeI c)))+(IntKind.i64.wrap (2*(slewI c)))))+2))) ?_)
 exact congrArg I (by (try simp only [IntKind.wrap_i64]); (try unfold stepI); omega)
theorem bounds_jump_pc (c:Config) (h:outI c=0):PC Tryz.prog [] 188 [D.r (Config.d c)] (· = I (jumpI c)):=by
 refine PC.of (N:=13) Tryz.func188 rfl rfl (Nat.le_of_ble_eq_true rfl) ?_
 have hR:=inR_of h
 have r1:=hR.cyc
 have r2:=hR.dri
 have r3:=hR.rat
 have r4:=hR.ags
 have r5:=hR.los
 have r6:=hR.dc
 have r7:=hR.dc2
 have r8:=hR.edg
 have r9:=hR.slw
 have r10:=hR.stp
 have r11:=hR.asp
 have r12:=hR.jmp
 have r13:=hR.erd
 have r14:=hR.eru
 have r15:=hR.rc
 have hup:=upI_in (drift_cycle h).1
 have hup2:=upI_in hR.dc.1
 have hdc:=drift_cycle h
 refine PW.a [1] 1 (PW.seq (PW.open [] kR ?_))
 refine PO.a [0,1,2,3,6] 11 [5,6,9] 6 (PO.one (n:=5) 4 kR ?_)
 refine PO1.gc _ (A:=[]) (fun _=>bounds_step_pc c h) ?_ rfl
 refine PO.a [5] 5 [8,9] 4 (PO.one (n:=3) 7 kR ?_)
 refine PO1.gc _ (A:=[]) (fun _=>bounds_near_pc c h) ?_ rfl
 refine PO.a [8,9,10] 3 [2] 0 (PO.done kR ?_)
 show PW _ _ _ _ _
 refine PW.ret (rq (I (IntKind.i64.wrap ((IntKind.i64.wrap ((IntKind.i64.wrap (2*c.ages))*(stepI c)))+(IntKind.i64.wrap (2*(2*edgeI c)))))) ?_)
 exact congrArg I (by rw [Ev.wrap_i64 (x:=2*c.ages) oM oM]; unfold jumpI; simp only [IntKind.wrap_i64]; omega)
theorem drumlineref5_jump_pc (c:Config) (h:outI c=0):PC Tryz.prog [] 132 [D.r (Config.d c)] (· = I (jumpI c)):=by
 refine PC.of (N:=13) Tryz.func132 rfl rfl (Nat.le_of_ble_eq_true rfl) ?_
 have hR:=inR_of h
 have r1:=hR.cyc
 have r2:=hR.dri
 have r3:=hR.rat
 have r4:=hR.ags
 have r5:=hR.los
 have r6:=hR.dc
 have r7:=hR.dc2
 have r8:=hR.edg
 have r9:=hR.slw
 have r10:=hR.stp
 have r11:=hR.asp
 have r12:=hR.jmp
 have r13:=hR.erd
 have r14:=hR.eru
 have r15:=hR.rc
 have hup:=upI_in (drift_cycle h).1
 have hup2:=upI_in hR.dc.1
 have hdc:=drift_cycle h
 refine PW.a [1] 1 (PW.seq (PW.open [] kR ?_))
 refine PO.a [0,1,2,3,6] 11 [5,6,9] 6 (PO.one (n:=5) 4 kR ?_)
 refine PO1.gc _ (A:=[]) (fun _=>drumlineref5_step_pc c h) ?_ rfl
 refine PO.a [5] 5 [8,9] 4 (PO.one (n:=3) 7 kR ?_)
 refine PO1.gc _ (A:=[]) (fun _=>drumlineref5_edge_pc c h) ?_ rfl
 refine PO.a [8,9,10] 3 [2] 0 (PO.done kR ?_)
 show PW _ _ _ _ _
 refine PW.ret (rq (I (IntKind.i64.wrap ((IntKind.i64.wrap ((IntKind.i64.wrap (2*c.ages))*(stepI c)))+(IntKind.i64.wrap (4*(edgeI c)))))) ?_)
 exact congrArg I (by rw [Ev.wrap_i64 (x:=2*c.ages) oM oM]; unfold jumpI; simp only [IntKind.wrap_i64]; omega)
def goneR (c:Config):Int:=if rangedB c=true then c.ages+1 else 0
theorem drumlineref5_Gone_pc (c:Config) (hp0:c.parts.length<1000000) (hl0:c.links.length<1000000):PC Tryz.prog [] 56 [D.r (Config.d c)] (· = I (goneR c)):=by
 refine PC.of (N:=9) Tryz.func56 rfl rfl (Nat.le_of_ble_eq_true rfl) ?_
 refine PW.a [1] 1 (PW.seq (PW.w 1 [1,3] 1 (PL.gc (A:=[]) (fun _=>drumlineref5_ranged_pc c hp0 hl0) (PL.n 1 [1,5] 1 (PW.cd (!(rangedB c)) ?_ ?_))))) <;> intro hz0 <;> try simp only [boolS,isB_true,isB_false] at hz0
 ·refine PW.t [2] 1 (rq (I 0) ?_)
  unfold goneR
  rw [hz0]
  rfl
 ·have h:=((rangedB_true c).1 hz0).2
  have hR:=inR_of h
  have r1:=hR.cyc
  have r2:=hR.dri
  have r3:=hR.rat
  have r4:=hR.ags
  have r5:=hR.los
  have r6:=hR.dc
  have r7:=hR.dc2
  have r8:=hR.edg
  have r9:=hR.slw
  have r10:=hR.stp
  have r11:=hR.asp
  have r12:=hR.jmp
  have r13:=hR.erd
  have r14:=hR.eru
  have r15:=hR.rc
  have hup:=upI_in (drift_cycle h).1
  have hup2:=upI_in hR.dc.1
  have hdc:=drift_cycle h
  refine PW.k (PW.t [2] 1 (rq (I (IntKind.i64.wrap (c.ages+1))) ?_))
  unfold goneR
  rw [if_pos hz0]
  exact congrArg I (by simp only [IntKind.wrap_i64]; omega)
def rangeD (e:Nat→Addr) (k:Int):D:=D.i 157 (D.q [sentD e 7,I k] 0)
def structD (n at_:Int):D:=D.i 157 (D.q [D.i 158 (D.q [I n] 0),I at_] 0)
def outsideB (v a b:Int):Bool:=decide (v<a)||decide (v>b)
theorem outsideB_true (v a b:Int):(outsideB v a b=true)=(v<a∨b<v):=by simp [outsideB]
theorem outsideB_false (v a b:Int):(outsideB v a b=false)=¬ (v<a∨b<v):=by rw [← outsideB_true]; simp
def condD (e:Nat→Addr) (k:Int):D:=if k=0 then D.v .nilIface else rangeD e k
theorem condD_some {e:Nat→Addr} {k:Int} (h:¬ k=0):condD e k=rangeD e k:=if_neg h
def rangesD (e:Nat→Addr) (c:Config):D:=if (checkP c).1=0 then condD e (outI c) else structD (checkP c).1 (checkP c).2
theorem bounds_outside_pc (v a b:Int):PC Tryz.prog [] 104 [I v,I a,I b] (· = D.v (.bool (outsideB v a b))):=by
 refine PC.of (N:=15) Tryz.func104 rfl rfl (Nat.le_of_ble_eq_true rfl) ?_
 refine PW.a [0,1,2] 0 (PW.t [6] 0 (rq (D.v (.bool ((decide (v<a))||(decide (v>b))))) ?_))
 rfl
theorem bounds_checkRanges_pc (e:Nat→Addr) (hA:Apart e) (c:Config) (hp0:c.parts.length<1000000) (hl0:c.links.length<1000000):PC Tryz.prog (errG3 e) 76 [D.r (Config.d c)] (· = rangesD e c):=by
 refine PC.of (N:=60) Tryz.func76 rfl rfl (Nat.le_of_ble_eq_true rfl) ?_
 refine PW.a [1] 1 (PW.seq (PW.w 1 [1,6] 1 (PL.gc (A:=[]) (fun _=>(plan_Check_pc e hA c hp0 hl0).weak (errG3_sub e)) (PL.n 5 [1,3,4] 1 (PW.a [1,3,4,11] 1 (PW.cd (((checkP c).1) != (0:Int)) ?_ ?_)))))) <;> intro hz0 <;> try simp only [boolS,isB_true,isB_false,outsideB_true,outsideB_false] at hz0
 ·refine PW.w 3 [4,14] 2 (PL.sl [4,14] 2 (PL.fz 1 (t:=160) [I ((checkP c).1)] (PL.a 2 [15,16] 2 (PL.sl [15,16] 2 (PL.build (cs:=[D.i 158 (D.q [I ((checkP c).1)] 0),I ((checkP c).2)]) rfl kR kR kR (PL.a 1 [18] 3 (PL.sl [18] 3 ?_)))))))
  refine PL.fz 2 (t:=162) [D.i 158 (D.q [I ((checkP c).1)] 0),I ((checkP c).2)] (PL.n 2 [2] 3 (PW.ret (rq (D.i 157 (D.q [D.i 158 (D.q [I ((checkP c).1)] 0),I ((checkP c).2)] 0)) ?_)))
  unfold rangesD
  rw [if_neg oM]
  rfl
 ·refine PW.k (PW.seq (PW.block (PW.w 2 [1,22] 1 (PL.gc (G:=(errG3 e)) (A:=[]) (fun _=>PC.more (bounds_outside_pc c.cycle 1000 1000000)) (PL.n 1 [1,20] 1 (PW.cd (outsideB c.cycle 1000 1000000) ?_ ?_)))))) <;> intro hz1 <;> try simp only [boolS,isB_true,isB_false,outsideB_true,outsideB_false] at hz1
  ·refine PW.w 3 [26] 2 (PL.sl [26] 2 (PL.fz 1 (t:=162) [sentD e 7,I 1] (PL.n 2 [2] 2 (PW.ret (rq (D.i 157 (D.q [sentD e 7,I 1] 0)) ?_)))))
   have ho:outI c=1:=by unfold outI; grind
   unfold rangesD
   rw [if_pos oM,ho]
   rfl
  ·refine PW.w 2 [1,30] 1 (PL.gc (G:=(errG3 e)) (A:=[]) (fun _=>PC.more (bounds_outside_pc c.drift 0 500)) (PL.n 1 [1,28] 1 (PW.cd (outsideB c.drift 0 500) ?_ ?_))) <;> intro hz2 <;> try simp only [boolS,isB_true,isB_false,outsideB_true,outsideB_false] at hz2
   ·refine PW.w 3 [34] 2 (PL.sl [34] 2 (PL.fz 1 (t:=162) [sentD e 7,I 2] (PL.n 2 [2] 2 (PW.ret (rq (D.i 157 (D.q [sentD e 7,I 2] 0)) ?_)))))
    have ho:outI c=2:=by unfold outI; grind
    unfold rangesD
    rw [if_pos oM,ho]
    rfl
   ·refine PW.w 2 [1,38] 1 (PL.gc (G:=(errG3 e)) (A:=[]) (fun _=>PC.more (bounds_outside_pc c.rate 0 400000)) (PL.n 1 [1,36] 1 (PW.cd (outsideB c.rate 0 400000) ?_ ?_))) <;> intro hz3 <;> try simp only [boolS,isB_true,isB_false,outsideB_true,outsideB_false] at hz3
    ·refine PW.w 3 [42] 2 (PL.sl [42] 2 (PL.fz 1 (t:=162) [sentD e 7,I 3] (PL.n 2 [2] 2 (PW.ret (rq (D.i 157 (D.q [sentD e 7,I 3] 0)) ?_)))))
     have ho:outI c=3:=by unfold outI; grind
     unfold rangesD
     rw [if_pos oM,ho]
     rfl
    ·refine PW.w 2 [1,46] 1 (PL.gc (G:=(errG3 e)) (A:=[]) (fun _=>PC.more (bounds_outside_pc c.ages 1 200)) (PL.n 1 [1,44] 1 (PW.cd (outsideB c.ages 1 200) ?_ ?_))) <;> intro hz4 <;> try simp only [boolS,isB_true,isB_false,outsideB_true,outsideB_false] at hz4
     ·refine PW.w 3 [50] 2 (PL.sl [50] 2 (PL.fz 1 (t:=162) [sentD e 7,I 4] (PL.n 2 [2] 2 (PW.ret (rq (D.i 157 (D.q [sentD e 7,I 4] 0)) ?_)))))
      have ho:outI c=4:=by unfold outI; grind
      unfold rangesD
      rw [if_pos oM,ho]
      rfl
     ·refine PW.w 2 [54] 1 (PL.gc (G:=(errG3 e)) (A:=[]) (fun _=>PC.more (bounds_outside_pc c.lost 0 20)) (PL.n 1 [52] 1 (PW.cd (outsideB c.lost 0 20) ?_ ?_))) <;> intro hz5 <;> try simp only [boolS,isB_true,isB_false,outsideB_true,outsideB_false] at hz5
      ·refine PW.w 3 [58] 2 (PL.sl [58] 2 (PL.fz 1 (t:=162) [sentD e 7,I 5] (PL.n 2 [2] 2 (PW.ret (rq (D.i 157 (D.q [sentD e 7,I 5] 0)) ?_)))))
       have ho:outI c=5:=by unfold outI; grind
       unfold rangesD
       rw [if_pos oM,ho]
       rfl
      ·refine PW.k (PW.t [2] 1 (rq (D.v (.nilIface)) ?_))
       have ho:outI c=0:=by unfold outI; grind
       unfold rangesD
       rw [if_pos oM,ho]
       rfl
def slotsN (c:Config):Nat→Int
 | 0=>0
 | i+1=>if 3*((portsOf c (i:Int)).length:Int)+(c.parts.getD i default).nodes>slotsN c i then 3*((portsOf c (i:Int)).length:Int)+(c.parts.getD i default).nodes else slotsN c i
def longI (c:Config):Int:=c.lead+slotsN c c.parts.length*c.slot+c.window
def timesI (c:Config):Int :=
 if c.window<3*edgeI c∨20000<c.window then 6 else if c.slot<2*c.window+1∨1000000<c.slot then 7 else if c.lead<c.window∨1000000<c.lead then 8
 else if c.cycle<longI c then 9 else if c.rate*c.cycle<jumpI c*1000000 then 10 else 0
def waitsI (c:Config):Int :=
 if c.ages<((c.parts.length:Int)-1)*(c.lost+1)+1 then 11 else if c.listen<(c.parts.length:Int)*(c.lost+1)+2∨60000<c.listen then 12
 else if c.span<(c.parts.length:Int)*(c.lost+1)+2∨60000<c.span then 13 else if 60000<c.listen+(c.parts.length:Int)*c.span then 14 else if c.room<(c.parts.length:Int)+2∨64<c.room then 15 else 0
theorem nodes_in {c:Config} (hg:(checkP c).1=0) {i:Nat} (hi:i<c.parts.length):1≤(c.parts.getD i default).nodes∧(c.parts.getD i default).nodes≤12:=by
 have:=good_nodes (good_of hg) (part:=(i:Int)) ⟨by omega,by omega⟩
 simpa using this
theorem slotsN_in {c:Config} (hg:(checkP c).1=0):∀ i,i≤c.parts.length→0≤slotsN c i∧slotsN c i≤48
 | 0,_=>by simp [slotsN]
 | i+1,hi=>by
  have h1:=slotsN_in hg i oM
  have h2:=nodes_in hg (i:=i) oM
  have h3:=portsOf_len c (i:Int)
  unfold slotsN
  split <;> omega
theorem bounds_longest_pc (e:Nat→Addr) (hA:Apart e) (c:Config) (hg:(checkP c).1=0) (hp0:c.parts.length<1000000) (hl0:c.links.length<1000000) (hsl:0≤c.slot∧c.slot≤1000000) (hle:0≤c.lead∧c.lead≤1000000) (hwi:0≤c.window∧c.window≤20000):PC Tryz.prog (errG3 e) 187 [D.r (Config.d c)] (· = I (longI c)):=by
 refine PC.of (N:=35) Tryz.func187 rfl rfl (Nat.le_of_ble_eq_true rfl) ?_
 refine PW.a [1] 1 (PW.a [1,3] 1 (PW.q [1,3,7,8,9] 1 (PW.block (PW.lp (α := Nat×Int) (fun (i,x)=>{ tab:=[⟨1,[],D.p 0 0 0 0⟩,⟨3,[],I x⟩,⟨7,[],sl' 2 Part.d c.parts⟩,⟨8,[],I (c.parts.length:Int)⟩,⟨9,[],I (i:Int)⟩],mem:=[Obj.var 30 (Config.d c)],gl:=(errG3 e) }) (fun (i,x)=>i≤c.parts.length∧x=slotsN c i) (fun (i,x)=>c.parts.length-i) [1,3,7,8,9] 1 (0,0) ?_ ?_))))
 ·dsimp only
  exact ⟨Nat.zero_le _,rfl⟩
 rintro ⟨i,x⟩ hinv
 dsimp only at hinv
 have hpl:=portsOf_len c (i:Int)
 have hw3:i<c.parts.length→IntKind.i64.wrap ((IntKind.i64.wrap (3*((portsOf c (i:Int)).length:Int)))+(c.parts.getD i default).nodes)=3*((portsOf c (i:Int)).length:Int)+(c.parts.getD i default).nodes:=fun hi=>by
   have:=nodes_in hg hi
   rw [Ev.wrap_i64 (x:=3*((portsOf c (i:Int)).length:Int)) oM oM,Ev.wrap_i64 oM oM]
 show PW _ _ _ _ _
 refine PW.a [1,3,7,8,9,10] 1 (PW.seq (PW.cd (decide ((i:Int)<(c.parts.length:Int))) ?_ ?_)) <;> intro hz0 <;> try simp only [boolS,isB_true,isB_false,outsideB_true,outsideB_false] at hz0
 ·refine PW.k (PW.seq (PW.block (PW.sr [1,3,4,5,7,8,9] 2 (p:=(0≤(i:Int)∧(i:Int)<(c.parts.length:Int))) oM (PW.open [] kR ?_))))
  refine PO.a [0,1,2,6,7] 11 [1,3,7,8,9,14,15,16,21] 6 (PO.one (n:=5) 3 kR ?_)
  refine PO1.gc _ (A:=[]) (fun _=>((plan_Ports_pc0 e c (i:Int) hp0 hl0).list).weak (errG3_sub e)) ?_ rfl
  refine PO.a [4,5,8,9,10] 5 [1,3,7,8,9] 0 (PO.eq (s':={ tab:=[⟨1,[],D.p 0 0 0 0⟩,⟨3,[],I (if IntKind.i64.wrap ((IntKind.i64.wrap (3*((portsOf c (i:Int)).length:Int)))+((c.parts.getD i default).nodes))>x then IntKind.i64.wrap ((IntKind.i64.wrap (3*((portsOf c (i:Int)).length:Int)))+((c.parts.getD i default).nodes)) else x)⟩,⟨7,[],sl' 2 Part.d c.parts⟩,⟨8,[],I (c.parts.length:Int)⟩,⟨9,[],I (i:Int)⟩],mem:=[Obj.var 30 (Config.d c),Obj.var 60 [I ((c.parts.getD i default).nodes),I ((c.parts.getD i default).faults)]],gl:=(errG3 e) }) kR (PO.eq (s':={ tab:=[⟨1,[],D.p 0 0 0 0⟩,⟨3,[],I (slotsN c (i+1))⟩,⟨7,[],sl' 2 Part.d c.parts⟩,⟨8,[],I (c.parts.length:Int)⟩,⟨9,[],I (i:Int)⟩],mem:=[Obj.var 30 (Config.d c),Obj.var 60 [I ((c.parts.getD i default).nodes),I ((c.parts.getD i default).faults)]],gl:=(errG3 e) }) (by rw [hw3 oM,hinv.2]; rfl) (PO.done kR ?_)))
  show PW _ _ _ _ _
  refine PW.b [1,3,7,8,9] 2 ?_
  refine BackR.of (s1:={ tab:=[⟨1,[],D.p 0 0 0 0⟩,⟨3,[],I (slotsN c (i+1))⟩,⟨7,[],sl' 2 Part.d c.parts⟩,⟨8,[],I (c.parts.length:Int)⟩,⟨9,[],I (IntKind.i64.wrap ((i:Int)+1))⟩],mem:=[Obj.var 30 (Config.d c)],gl:=(errG3 e) }) (i+1,slotsN c (i+1)) kR kR ?_ ?_ ?_
  ·dsimp only
   rw [wrap1 i oM]
   exact Rem.refl _
  ·dsimp only
   exact ⟨by omega,rfl⟩
  ·dsimp only
   exact nD
 ·refine PW.e (PW.t [2] 1 (rq (I (IntKind.i64.wrap ((IntKind.i64.wrap (c.lead+(IntKind.i64.wrap (x*c.slot))))+c.window))) ?_))
  have hk:i=c.parts.length:=by omega
  have hx:=slotsN_in hg i hinv.1
  have hm:=mul_in (a:=x) (b:=c.slot) (A:=48) (B:=1000000) oM oM oM oM
  exact congrArg I (by unfold longI; rw [← hk,← hinv.2,Ev.wrap_i64 (x:=x*c.slot) oM oM,Ev.wrap_i64 (x:=c.lead+x*c.slot) oM oM,Ev.wrap_i64 oM oM])
theorem bounds_checkTimes_pc (e:Nat→Addr) (hA:Apart e) (c:Config) (hg:(checkP c).1=0) (hp0:c.parts.length<1000000) (hl0:c.links.length<1000000) (h:outI c=0):PC Tryz.prog (errG3 e) 166 [D.r (Config.d c)] (· = condD e (timesI c)):=by
 refine PC.of (N:=62) Tryz.func166 rfl rfl (Nat.le_of_ble_eq_true rfl) ?_
 have hR:=inR_of h
 have r1:=hR.cyc
 have r2:=hR.dri
 have r3:=hR.rat
 have r4:=hR.ags
 have r5:=hR.los
 have r6:=hR.dc
 have r7:=hR.dc2
 have r8:=hR.edg
 have r9:=hR.slw
 have r10:=hR.stp
 have r11:=hR.asp
 have r12:=hR.jmp
 have r13:=hR.erd
 have r14:=hR.eru
 have r15:=hR.rc
 have hw6:IntKind.i64.wrap ((2*edgeI c)+(edgeI c))=3*edgeI c:=by rw [Ev.wrap_i64 oM oM]; omega
 have hw10:IntKind.i64.wrap (c.rate*c.cycle)=c.rate*c.cycle:=Ev.wrap_i64 oM oM
 have hw10b:IntKind.i64.wrap ((jumpI c)*1000000)=jumpI c*1000000:=Ev.wrap_i64 oM oM
 refine PW.a [1] 1 (PW.a [1,3] 1 (PW.seq (PW.block (PW.seq (PW.open [] kR ?_)))))
 refine PO.a [0,1,3] 8 [1,3,7,8,10] 5 (PO.one (n:=4) 2 kR ?_)
 refine PO1.gc _ (G:=(errG3 e)) (A:=[]) (fun _=>PC.more (bounds_near_pc c h)) ?_ rfl
 refine PO.one (n:=3) 4 kR ?_
 refine PO1.gc _ (G:=(errG3 e)) (A:=[]) (fun _=>PC.more (bounds_edge_pc c h)) ?_ rfl
 refine PO.a [5] 3 [1,3,7,12] 2 (PO.one (n:=1) 6 kR ?_)
 refine PO1.gc _ (G:=(errG3 e)) (A:=[]) (fun _=>PC.more (bounds_outside_pc c.window (IntKind.i64.wrap ((2*edgeI c)+(edgeI c))) 20000)) ?_ rfl
 refine PO.a [7] 1 [1,3,6] 0 (PO.done kR ?_)
 show PW _ _ _ _ _
 refine PW.cd (outsideB c.window (IntKind.i64.wrap ((2*edgeI c)+(edgeI c))) 20000) ?_ ?_ <;> intro hz0 <;> try simp only [boolS,isB_true,isB_false,outsideB_true,outsideB_false] at hz0
 ·rw [hw6] at hz0
  refine PW.w 3 [16] 2 (PL.sl [16] 2 (PL.fz 1 (t:=162) [sentD e 7,I 6] (PL.n 2 [2] 2 (PW.ret (rq (D.i 157 (D.q [sentD e 7,I 6] 0)) ?_)))))
  have ht:timesI c=6:=by
    unfold timesI
    repeat' split
    all_goals omega
  rw [ht]
  rfl
 ·rw [hw6] at hz0
  have hw7:IntKind.i64.wrap ((IntKind.i64.wrap (2*c.window))+1)=2*c.window+1:=by rw [Ev.wrap_i64 (x:=2*c.window) oM oM,Ev.wrap_i64 oM oM]
  refine PW.w 5 [1,3,20,23] 1 (PL.gc (G:=(errG3 e)) (A:=[]) (fun _=>PC.more (bounds_outside_pc c.slot (IntKind.i64.wrap ((IntKind.i64.wrap (2*c.window))+1)) 1000000)) (PL.n 1 [1,3,18] 1 (PW.cd (outsideB c.slot (IntKind.i64.wrap ((IntKind.i64.wrap (2*c.window))+1)) 1000000) ?_ ?_))) <;> intro hz1 <;> try simp only [boolS,isB_true,isB_false,outsideB_true,outsideB_false] at hz1
  ·rw [hw7] at hz1
   have hw7:IntKind.i64.wrap ((IntKind.i64.wrap (2*c.window))+1)=2*c.window+1:=by rw [Ev.wrap_i64 (x:=2*c.window) oM oM,Ev.wrap_i64 oM oM]
   refine PW.w 3 [27] 2 (PL.sl [27] 2 (PL.fz 1 (t:=162) [sentD e 7,I 7] (PL.n 2 [2] 2 (PW.ret (rq (D.i 157 (D.q [sentD e 7,I 7] 0)) ?_)))))
   have ht:timesI c=7:=by
     unfold timesI
     repeat' split
     all_goals omega
   rw [ht]
   rfl
  ·rw [hw7] at hz1
   have hw7:IntKind.i64.wrap ((IntKind.i64.wrap (2*c.window))+1)=2*c.window+1:=by rw [Ev.wrap_i64 (x:=2*c.window) oM oM,Ev.wrap_i64 oM oM]
   refine PW.w 3 [1,31,32] 1 (PL.gc (G:=(errG3 e)) (A:=[]) (fun _=>PC.more (bounds_outside_pc c.lead c.window 1000000)) (PL.n 1 [1,29] 1 (PW.cd (outsideB c.lead c.window 1000000) ?_ ?_))) <;> intro hz2 <;> try simp only [boolS,isB_true,isB_false,outsideB_true,outsideB_false] at hz2
   ·have hw7:IntKind.i64.wrap ((IntKind.i64.wrap (2*c.window))+1)=2*c.window+1:=by rw [Ev.wrap_i64 (x:=2*c.window) oM oM,Ev.wrap_i64 oM oM]
    refine PW.w 3 [36] 2 (PL.sl [36] 2 (PL.fz 1 (t:=162) [sentD e 7,I 8] (PL.n 2 [2] 2 (PW.ret (rq (D.i 157 (D.q [sentD e 7,I 8] 0)) ?_)))))
    have ht:timesI c=8:=by
      unfold timesI
      repeat' split
      all_goals omega
    rw [ht]
    rfl
   ·have hw7:IntKind.i64.wrap ((IntKind.i64.wrap (2*c.window))+1)=2*c.window+1:=by rw [Ev.wrap_i64 (x:=2*c.window) oM oM,Ev.wrap_i64 oM oM]
    refine PW.seq (PW.open [] kR ?_)
    refine PO.a [0,2,3] 6 [1,39,42] 3 (PO.one (n:=2) 1 kR ?_)
    refine PO1.gc _ (A:=[]) (fun _=>bounds_longest_pc e hA c hg hp0 hl0 oM oM oM) ?_ rfl
    refine PO.a [4,5] 2 [1,38] 0 (PO.done kR ?_)
    show PW _ _ _ _ _
    refine PW.cd (decide ((longI c)>c.cycle)) ?_ ?_ <;> intro hz3 <;> try simp only [boolS,isB_true,isB_false,outsideB_true,outsideB_false] at hz3
    ·have hw7:IntKind.i64.wrap ((IntKind.i64.wrap (2*c.window))+1)=2*c.window+1:=by rw [Ev.wrap_i64 (x:=2*c.window) oM oM,Ev.wrap_i64 oM oM]
     refine PW.w 3 [46] 2 (PL.sl [46] 2 (PL.fz 1 (t:=162) [sentD e 7,I 9] (PL.n 2 [2] 2 (PW.ret (rq (D.i 157 (D.q [sentD e 7,I 9] 0)) ?_)))))
     have ht:timesI c=9:=by
       unfold timesI
       repeat' split
       all_goals omega
     rw [ht]
     rfl
    ·have hw7:IntKind.i64.wrap ((IntKind.i64.wrap (2*c.window))+1)=2*c.window+1:=by rw [Ev.wrap_i64 (x:=2*c.window) oM oM,Ev.wrap_i64 oM oM]
     refine PW.seq (PW.open [] kR ?_)
     refine PO.a [0,1,2,3,4,5] 10 [53,54] 4 (PO.one (n:=3) 6 kR ?_)
     refine PO1.gc _ (G:=(errG3 e)) (A:=[]) (fun _=>PC.more (bounds_jump_pc c h)) ?_ rfl
     refine PO.a [7,8,9] 3 [48] 0 (PO.done kR ?_)
     show PW _ _ _ _ _
     refine PW.cd (decide ((IntKind.i64.wrap (c.rate*c.cycle))<(IntKind.i64.wrap ((jumpI c)*1000000)))) ?_ ?_ <;> intro hz4 <;> try simp only [boolS,isB_true,isB_false,outsideB_true,outsideB_false] at hz4
     ·rw [hw10,hw10b] at hz4
      have hw7:IntKind.i64.wrap ((IntKind.i64.wrap (2*c.window))+1)=2*c.window+1:=by rw [Ev.wrap_i64 (x:=2*c.window) oM oM,Ev.wrap_i64 oM oM]
      refine PW.w 3 [60] 2 (PL.sl [60] 2 (PL.fz 1 (t:=162) [sentD e 7,I 10] (PL.n 2 [2] 2 (PW.ret (rq (D.i 157 (D.q [sentD e 7,I 10] 0)) ?_)))))
      have ht:timesI c=10:=by
        unfold timesI
        repeat' split
        all_goals omega
      rw [ht]
      rfl
     ·rw [hw10,hw10b] at hz4
      have hw7:IntKind.i64.wrap ((IntKind.i64.wrap (2*c.window))+1)=2*c.window+1:=by rw [Ev.wrap_i64 (x:=2*c.window) oM oM,Ev.wrap_i64 oM oM]
      refine PW.k (PW.t [2] 1 (rq (D.v (.nilIface)) ?_))
      have ht:timesI c=0:=by
        unfold timesI
        repeat' split
        all_goals omega
      rw [ht]
      rfl
theorem parts_in {c:Config} (hg:(checkP c).1=0):1≤c.parts.length∧c.parts.length≤6:=(good_of hg).len
theorem bounds_checkWaits_pc (e:Nat→Addr) (hA:Apart e) (c:Config) (hg:(checkP c).1=0) (hp0:c.parts.length<1000000) (hl0:c.links.length<1000000) (h:outI c=0):PC Tryz.prog (errG3 e) 167 [D.r (Config.d c)] (· = condD e (waitsI c)):=by
 refine PC.of (N:=72) Tryz.func167 rfl rfl (Nat.le_of_ble_eq_true rfl) ?_
 have hR:=inR_of h
 have r1:=hR.cyc
 have r2:=hR.dri
 have r3:=hR.rat
 have r4:=hR.ags
 have r5:=hR.los
 have r6:=hR.dc
 have r7:=hR.dc2
 have r8:=hR.edg
 have r9:=hR.slw
 have r10:=hR.stp
 have r11:=hR.asp
 have r12:=hR.jmp
 have r13:=hR.erd
 have r14:=hR.eru
 have r15:=hR.rc
 have hlt:IntKind.i64.wrap (c.lost+1)=c.lost+1:=Ev.wrap_i64 oM oM
 have hn6:=parts_in hg
 have hn1:IntKind.i64.wrap ((c.parts.length:Int)-1)=(c.parts.length:Int)-1:=Ev.wrap_i64 oM oM
 have hm1:=mul_in (a:=(c.parts.length:Int)) (b:=c.lost+1) (A:=6) (B:=21) oM oM oM oM
 have hm2:=mul_in (a:=(c.parts.length:Int)-1) (b:=c.lost+1) (A:=5) (B:=21) oM oM oM oM
 have hle:IntKind.i64.wrap ((IntKind.i64.wrap ((c.parts.length:Int)*(c.lost+1)))+2)=(c.parts.length:Int)*(c.lost+1)+2:=by rw [Ev.wrap_i64 (x:=(c.parts.length:Int)*(c.lost+1)) oM oM,Ev.wrap_i64 oM oM]
 have hw11:IntKind.i64.wrap ((IntKind.i64.wrap ((IntKind.i64.wrap ((c.parts.length:Int)-1))*(c.lost+1)))+1)=((c.parts.length:Int)-1)*(c.lost+1)+1:=by rw [hn1,Ev.wrap_i64 (x:=((c.parts.length:Int)-1)*(c.lost+1)) oM oM,Ev.wrap_i64 oM oM]
 have hw15:IntKind.i64.wrap ((c.parts.length:Int)+2)=(c.parts.length:Int)+2:=Ev.wrap_i64 oM oM
 refine PW.a [1] 1 (PW.seq (PW.open [] kR ?_))
 refine PO.a [0,1,2,3,4,5,6,7] 8 [1,3,4] 0 (PO.eq (s':={ tab:=[⟨1,[],D.p 0 0 0 0⟩,⟨3,[],I (c.parts.length:Int)⟩,⟨4,[],I (IntKind.i64.wrap (c.lost+1))⟩],mem:=[Obj.var 30 (Config.d c)],gl:=(errG3 e) }) kR (PO.eq (s':={ tab:=[⟨1,[],D.p 0 0 0 0⟩,⟨3,[],I (c.parts.length:Int)⟩,⟨4,[],I (c.lost+1)⟩],mem:=[Obj.var 30 (Config.d c)],gl:=(errG3 e) }) (by rw [hlt]) (PO.done kR ?_)))
 show PW _ _ _ _ _
 refine PW.seq (PW.open [] kR ?_)
 refine PO.a [0,1,2,3,4,5] 6 [1,3,4,5,6] 0 (PO.done kR ?_)
 show PW _ _ _ _ _
 refine PW.sg (PL.row 5 [1,3,4,5,6,7] 1 (s':={ tab:=[⟨1,[],D.p 0 0 0 0⟩,⟨3,[],I (c.parts.length:Int)⟩,⟨4,[],I (c.lost+1)⟩,⟨5,[],I c.listen⟩,⟨6,[],I c.span⟩,⟨7,[],I (IntKind.i64.wrap ((IntKind.i64.wrap ((c.parts.length:Int)*(c.lost+1)))+2))⟩],mem:=[Obj.var 30 (Config.d c)],gl:=(errG3 e) }) (p:=True) kR kR kR kR kR trivial (PL.eq (s':={ tab:=[⟨1,[],D.p 0 0 0 0⟩,⟨3,[],I (c.parts.length:Int)⟩,⟨4,[],I (c.lost+1)⟩,⟨5,[],I c.listen⟩,⟨6,[],I c.span⟩,⟨7,[],I ((c.parts.length:Int)*(c.lost+1)+2)⟩],mem:=[Obj.var 30 (Config.d c)],gl:=(errG3 e) }) (by rw [hle]) (PL.nl (PW.seq (PW.block (PW.a [1,3,5,6,7,22] 1 (PW.cd (decide (c.ages<(IntKind.i64.wrap ((IntKind.i64.wrap ((IntKind.i64.wrap ((c.parts.length:Int)-1))*(c.lost+1)))+1)))) ?_ ?_))))))) <;> intro hz0 <;> try simp only [boolS,isB_true,isB_false,outsideB_true,outsideB_false] at hz0
 ·rw [hw11] at hz0
  refine PW.w 3 [33] 2 (PL.sl [33] 2 (PL.fz 1 (t:=162) [sentD e 7,I 11] (PL.n 2 [2] 2 (PW.ret (rq (D.i 157 (D.q [sentD e 7,I 11] 0)) ?_)))))
  have ht:waitsI c=11:=by
    unfold waitsI
    repeat' split
    all_goals omega
  rw [ht]
  rfl
 ·rw [hw11] at hz0
  refine PW.w 2 [1,3,5,6,7,36,37] 1 (PL.gc (G:=(errG3 e)) (A:=[]) (fun _=>PC.more (bounds_outside_pc c.listen ((c.parts.length:Int)*(c.lost+1)+2) 60000)) (PL.n 1 [1,3,5,6,7,35] 1 (PW.cd (outsideB c.listen ((c.parts.length:Int)*(c.lost+1)+2) 60000) ?_ ?_))) <;> intro hz1 <;> try simp only [boolS,isB_true,isB_false,outsideB_true,outsideB_false] at hz1
  ·refine PW.w 3 [41] 2 (PL.sl [41] 2 (PL.fz 1 (t:=162) [sentD e 7,I 12] (PL.n 2 [2] 2 (PW.ret (rq (D.i 157 (D.q [sentD e 7,I 12] 0)) ?_)))))
   have ht:waitsI c=12:=by
     unfold waitsI
     repeat' split
     all_goals omega
   rw [ht]
   rfl
  ·refine PW.w 2 [1,3,5,6,44,45] 1 (PL.gc (G:=(errG3 e)) (A:=[]) (fun _=>PC.more (bounds_outside_pc c.span ((c.parts.length:Int)*(c.lost+1)+2) 60000)) (PL.n 1 [1,3,5,6,43] 1 (PW.cd (outsideB c.span ((c.parts.length:Int)*(c.lost+1)+2) 60000) ?_ ?_))) <;> intro hz2 <;> try simp only [boolS,isB_true,isB_false,outsideB_true,outsideB_false] at hz2
   ·refine PW.w 3 [49] 2 (PL.sl [49] 2 (PL.fz 1 (t:=162) [sentD e 7,I 13] (PL.n 2 [2] 2 (PW.ret (rq (D.i 157 (D.q [sentD e 7,I 13] 0)) ?_)))))
    have ht:waitsI c=13:=by
      unfold waitsI
      repeat' split
      all_goals omega
    rw [ht]
    rfl
   ·have hsp:=mul_in (a:=(c.parts.length:Int)) (b:=c.span) (A:=6) (B:=60000) oM oM oM oM
    have hw14:IntKind.i64.wrap (c.listen+(IntKind.i64.wrap ((c.parts.length:Int)*c.span)))=c.listen+(c.parts.length:Int)*c.span:=by rw [Ev.wrap_i64 (x:=(c.parts.length:Int)*c.span) oM oM,Ev.wrap_i64 oM oM]
    refine PW.a [1,3,51] 1 (PW.cd (decide ((IntKind.i64.wrap (c.listen+(IntKind.i64.wrap ((c.parts.length:Int)*c.span))))>(60000:Int))) ?_ ?_) <;> intro hz3 <;> try simp only [boolS,isB_true,isB_false,outsideB_true,outsideB_false] at hz3
    ·rw [hw14] at hz3
     have hsp:=mul_in (a:=(c.parts.length:Int)) (b:=c.span) (A:=6) (B:=60000) oM oM oM oM
     have hw14:IntKind.i64.wrap (c.listen+(IntKind.i64.wrap ((c.parts.length:Int)*c.span)))=c.listen+(c.parts.length:Int)*c.span:=by rw [Ev.wrap_i64 (x:=(c.parts.length:Int)*c.span) oM oM,Ev.wrap_i64 oM oM]
     refine PW.w 3 [60] 2 (PL.sl [60] 2 (PL.fz 1 (t:=162) [sentD e 7,I 14] (PL.n 2 [2] 2 (PW.ret (rq (D.i 157 (D.q [sentD e 7,I 14] 0)) ?_)))))
     have ht:waitsI c=14:=by
       unfold waitsI
       repeat' split
       all_goals omega
     rw [ht]
     rfl
    ·rw [hw14] at hz3
     have hsp:=mul_in (a:=(c.parts.length:Int)) (b:=c.span) (A:=6) (B:=60000) oM oM oM oM
     have hw14:IntKind.i64.wrap (c.listen+(IntKind.i64.wrap ((c.parts.length:Int)*c.span)))=c.listen+(c.parts.length:Int)*c.span:=by rw [Ev.wrap_i64 (x:=(c.parts.length:Int)*c.span) oM oM,Ev.wrap_i64 oM oM]
     refine PW.w 4 [64,66] 1 (PL.gc (G:=(errG3 e)) (A:=[]) (fun _=>PC.more (bounds_outside_pc c.room (IntKind.i64.wrap ((c.parts.length:Int)+2)) 64)) (PL.n 1 [62] 1 (PW.cd (outsideB c.room (IntKind.i64.wrap ((c.parts.length:Int)+2)) 64) ?_ ?_))) <;> intro hz4 <;> try simp only [boolS,isB_true,isB_false,outsideB_true,outsideB_false] at hz4
     ·rw [hw15] at hz4
      have hsp:=mul_in (a:=(c.parts.length:Int)) (b:=c.span) (A:=6) (B:=60000) oM oM oM oM
      have hw14:IntKind.i64.wrap (c.listen+(IntKind.i64.wrap ((c.parts.length:Int)*c.span)))=c.listen+(c.parts.length:Int)*c.span:=by rw [Ev.wrap_i64 (x:=(c.parts.length:Int)*c.span) oM oM,Ev.wrap_i64 oM oM]
      refine PW.w 3 [70] 2 (PL.sl [70] 2 (PL.fz 1 (t:=162) [sentD e 7,I 15] (PL.n 2 [2] 2 (PW.ret (rq (D.i 157 (D.q [sentD e 7,I 15] 0)) ?_)))))
      have ht:waitsI c=15:=by
        unfold waitsI
        repeat' split
        all_goals omega
      rw [ht]
      rfl
     ·rw [hw15] at hz4
      have hsp:=mul_in (a:=(c.parts.length:Int)) (b:=c.span) (A:=6) (B:=60000) oM oM oM oM
      have hw14:IntKind.i64.wrap (c.listen+(IntKind.i64.wrap ((c.parts.length:Int)*c.span)))=c.listen+(c.parts.length:Int)*c.span:=by rw [Ev.wrap_i64 (x:=(c.parts.length:Int)*c.span) oM oM,Ev.wrap_i64 oM oM]
      refine PW.k (PW.t [2] 1 (rq (D.v (.nilIface)) ?_))
      have ht:waitsI c=0:=by
        unfold waitsI
        repeat' split
        all_goals omega
      rw [ht]
      rfl
end Go.Proofs.YtdomlccfjnkbjaaGreatDoor.Pl
