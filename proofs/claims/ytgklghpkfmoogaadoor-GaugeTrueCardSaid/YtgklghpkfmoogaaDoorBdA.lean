/- Several texts in one: BdDef BdOne BdTwo BdThree. -/
import Derived.Test.YtgklghpkfmoogaaDoorPlTwelve
import Derived.Test.YtgklghpkfmoogaaDoorHpGood
import Derived.Test.YtgklghpkfmoogaaDoorMdA
import Derived.Test.YtgklghpkfmoogaaDoorDpC
import Derived.Test.YtgklghpkfmoogaaDoorPlS
namespace Go.Proofs.YtgklghpkfmoogaaDoor.Pl
open Go.RowKit Go.Proofs.YtgklghpkfmoogaaDoor.Sm Go.Proofs.YtgklghpkfmoogaaDoor.Dp
def errG3 (e:Nat→Addr):List (Nat×List D):=(0,[sentD e 7])::errG2 e
theorem errG3_sub (e:Nat→Addr):∀ x ∈ errG2 e,x ∈ errG3 e:=fun _ hx=>List.mem_cons_of_mem _ hx
theorem errG3_range (e:Nat→Addr):(0,[sentD e 7]) ∈ errG3 e := .head _
theorem errG3_type (e:Nat→Addr):(8,[D.v (.iface 113 (.agg #[.pointer (some ⟨9,53,none⟩)]))]) ∈ errG3 e:=errG3_sub e _ (errG2_type e)
end Go.Proofs.YtgklghpkfmoogaaDoor.Pl
namespace Go.Proofs.YtgklghpkfmoogaaDoor.Pl
open Go.RowKit Go.Proofs.YtgklghpkfmoogaaDoor.Sm Go.Proofs.YtgklghpkfmoogaaDoor.Dp
set_option maxHeartbeats 4000000
set_option maxRecDepth 100000
set_option linter.unusedVariables false
set_option linter.unusedSimpArgs false
def slewI (c:Config):Int:=upI (c.drift*c.cycle)
def stepI (c:Config):Int:=4*edgeI c+2*slewI c+2
def jumpI (c:Config):Int:=2*c.ages*stepI c+4*edgeI c
def tickI (c:Config):Int:=3*edgeI c+upI (2*edgeI c*(c.rate+c.drift))+1
structure InR (c:Config):Prop where
 cyc:1000≤c.cycle∧c.cycle≤1000000
 dri:0≤c.drift∧c.drift≤500
 rat:0≤c.rate∧c.rate≤400000
 ags:1≤c.ages∧c.ages≤200
 los:0≤c.lost∧c.lost≤20
 dc:0≤c.drift*c.cycle∧c.drift*c.cycle≤500000000
 dc2:2*c.drift*c.cycle=2*(c.drift*c.cycle)
 edg:1≤edgeI c∧edgeI c≤1001
 slw:0≤slewI c∧slewI c≤500
 stp:6≤stepI c∧stepI c≤5006
 asp:0≤2*c.ages*stepI c∧2*c.ages*stepI c≤2002400
 jmp:0≤jumpI c∧jumpI c≤2006404
 erd:0≤2*edgeI c*(c.rate+c.drift)∧2*edgeI c*(c.rate+c.drift)≤801801000
 eru:0≤upI (2*edgeI c*(c.rate+c.drift))∧upI (2*edgeI c*(c.rate+c.drift))≤802
 rc:0≤c.rate*c.cycle∧c.rate*c.cycle≤400000000000
theorem inR_of {c:Config} (h:outI c=0):InR c:=by
 obtain ⟨h1,h2,h3,h4,h5⟩:=outI_zero.1 h
 have hdc:=mul_in (a:=c.drift) (b:=c.cycle) (A:=500) (B:=1000000) oM oM oM oM
 have e2:2*c.drift*c.cycle=2*(c.drift*c.cycle):=Int.mul_assoc _ _ _
 have he:=edgeI_in h
 have hs:0≤slewI c∧slewI c≤500:=by
  have:=upI_in hdc.1
  unfold slewI
  omega
 have hst:6≤stepI c∧stepI c≤5006:=by unfold stepI; omega
 have has:=mul_in (a:=2*c.ages) (b:=stepI c) (A:=400) (B:=5006) oM oM oM oM
 have her:=mul_in (a:=2*edgeI c) (b:=c.rate+c.drift) (A:=2002) (B:=400500) oM oM oM oM
 have hrc:=mul_in (a:=c.rate) (b:=c.cycle) (A:=400000) (B:=1000000) oM oM oM oM
 have hu:=upI_in her.1
 exact ⟨h1,h2,h3,h4,h5,by omega,e2,he,hs,hst,by omega,by unfold jumpI; omega,by omega,by omega,by omega⟩
theorem ticks_Ceil_pc (n:Int) (h0:0≤n) (h1:n≤4611686018427387904):PC Tryd.prog [] 30 [I n,I 1000000] (· = D.t [I (upI n),D.v (.bool true)]):=by
 refine PC.of (N:=19) Tryd.func30 rfl rfl (Nat.le_of_ble_eq_true rfl) ?_
 refine PW.sr [0,1] 0 trivial ?_
 refine PW.seq ?_
 refine PW.sr [0,1,8] 0 trivial ?_
 refine PW.cd false (fun hz0=>by cases hz0) (fun hz0 => ?_)
 refine PW.skip ?_
 show PW _ _ _ _ _
 refine PW.sg ?_
 refine PL.row 4 [0,1,6] 0 (s':={ tab:=[⟨0,[],I n⟩,⟨1,[],I 1000000⟩,⟨6,[],I (IntKind.i64.wrap (n.tdiv 1000000))⟩],mem:=[] }) (p:=True) kR kR kR kR kR trivial ?_
 refine PL.eq (s':={ tab:=[⟨0,[],I n⟩,⟨1,[],I 1000000⟩,⟨6,[],I (n.tdiv 1000000)⟩],mem:=[] }) (by rw [wrap_tdiv h0 h1]) ?_
 refine PL.nl ?_
 refine PW.seq ?_
 refine PW.sr [6,15] 0 trivial ?_
 refine PW.cd (decide ((n.tmod 1000000)>(0:Int))) (fun hz1 => ?_) (fun hz1 => ?_)
 ·try simp only [boolS,isB_true,isB_false] at hz1
  refine PW.region ?_
  refine PL.row 3 [6] 0 (s':={ tab:=[⟨6,[],I (IntKind.i64.wrap ((n.tdiv 1000000)+1))⟩],mem:=[] }) (p:=True) kR kR kR kR kR trivial ?_
  refine PL.eq (s':={ tab:=[⟨6,[],I (n.tdiv 1000000+1)⟩],mem:=[] }) (by rw [wrap_tdiv1 h0 h1]) ?_
  refine PL.nil ?_
  show PW _ _ _ _ _
  refine PW.sr [4,5] 0 trivial ?_
  refine PW.ret ?_
  refine retQ_ret (d:=D.t [I (n.tdiv 1000000+1),D.v (.bool true)]) (ps:=[]) kR trivial ?_
  unfold upI
  rw [if_pos oM]
 ·try simp only [boolS,isB_true,isB_false] at hz1
  refine PW.skip ?_
  show PW _ _ _ _ _
  refine PW.sr [4,5] 0 trivial ?_
  refine PW.ret ?_
  refine retQ_ret (d:=D.t [I (n.tdiv 1000000),D.v (.bool true)]) (ps:=[]) kR trivial ?_
  unfold upI
  rw [if_neg oM]
theorem bounds_millionths_pc (n:Int) (h0:0≤n) (h1:n≤4611686018427387904):PC Tryd.prog [] 24 [I n] (· = I (upI n)):=by
 refine PC.of (N:=11) Tryd.func24 rfl rfl (Nat.le_of_ble_eq_true rfl) ?_
 refine PW.sr [0] 0 trivial ?_
 refine PW.sg ?_
 refine PL.rw 1 [6] 0 trivial ?_
 refine PL.gc (A:=[]) (fun _=>ticks_Ceil_pc n oM oM) ?_
 refine PL.rw 5 [3] 0 trivial ?_
 refine PL.nl ?_
 refine PW.sr [2] 0 trivial ?_
 refine PW.ret ?_
 refine retQ_ret (d:=I (upI n)) (ps:=[]) kR trivial ?_
 rfl
theorem bounds_edge_pc (c:Config) (h:outI c=0):PC Tryd.prog [] 16 [D.r (Config.d c)] (· = I (edgeI c)):=by
 refine PC.of (N:=11) Tryd.func16 rfl rfl (Nat.le_of_ble_eq_true rfl) ?_
 have hR:=inR_of h
 have r1:=hR.cyc
 have r2:=hR.dri
 have r3:=hR.rat
 have r4:=hR.ags
 have r5:=hR.los
 have r6:=hR.dc
 have r7:=hR.dc2
 have r8:=hR.edg
 have r9:=hR.slw
 have r10:=hR.stp
 have r11:=hR.asp
 have r12:=hR.jmp
 have r13:=hR.erd
 have r14:=hR.eru
 have r15:=hR.rc
 have hup:=upI_in (drift_cycle h).1
 have hup2:=upI_in hR.dc.1
 have hdc:=drift_cycle h
 refine PW.sr [1] 1 trivial ?_
 refine PW.sg ?_
 refine PL.rw 6 [8] 1 trivial ?_
 refine PL.gc (G:=[]) (f:=24) (ds0:=[I (IntKind.i64.wrap ((IntKind.i64.wrap (2*c.drift))*c.cycle))]) (d:=I (upI (2*c.drift*c.cycle))) (A:=[]) (fun _=>(by rw [(show IntKind.i64.wrap ((IntKind.i64.wrap (2*c.drift))*c.cycle)=2*c.drift*c.cycle from by rw [Ev.wrap_i64 (x:=2*c.drift) oM oM,Ev.wrap_i64 (x:=2*c.drift*c.cycle) oM oM])]; exact bounds_millionths_pc (2*c.drift*c.cycle) oM oM)) ?_
 refine PL.rw 2 [2] 1 trivial ?_
 refine PL.nl ?_
 refine PW.ret ?_
 refine retQ_ret (d:=I (IntKind.i64.wrap ((upI (2*c.drift*c.cycle))+1))) (ps:=[]) kR trivial ?_
 exact congrArg I (by (try simp only [IntKind.wrap_i64]); (try unfold edgeI); omega)
def nearI (c:Config):Int:=2*edgeI c
def slewR (c:Config):Int:=if rangedB c=true then slewI c else 0
def stepR (c:Config):Int:=if rangedB c=true then stepI c else 0
def jumpR (c:Config):Int:=if rangedB c=true then jumpI c else 0
def tickR (c:Config):Int:=if rangedB c=true then tickI c else 0
def goneR (c:Config):Int:=if rangedB c=true then c.ages+1 else 0
end Go.Proofs.YtgklghpkfmoogaaDoor.Pl
namespace Go.Proofs.YtgklghpkfmoogaaDoor.Pl
open Go.RowKit Go.Proofs.YtgklghpkfmoogaaDoor.Sm Go.Proofs.YtgklghpkfmoogaaDoor.Dp
set_option maxHeartbeats 4000000
set_option maxRecDepth 100000
set_option linter.unusedVariables false
set_option linter.unusedSimpArgs false
def rangeD (e:Nat→Addr) (k:Int):D:=D.i 61 (D.q [sentD e 7,I k] 0)
def structD (n at_:Int):D:=D.i 61 (D.q [D.i 62 (D.q [I n] 0),I at_] 0)
def outsideB (v a b:Int):Bool:=decide (v<a)||decide (v>b)
theorem outsideB_true (v a b:Int):(outsideB v a b=true)=(v<a∨b<v):=by simp [outsideB]
theorem outsideB_false (v a b:Int):(outsideB v a b=false)=¬ (v<a∨b<v):=by rw [← outsideB_true]; simp
def condD (e:Nat→Addr) (k:Int):D:=if k=0 then D.v .nilIface else rangeD e k
theorem condD_nil (e:Nat→Addr):condD e 0=D.v .nilIface:=rfl
theorem condD_some {e:Nat→Addr} {k:Int} (h:¬ k=0):condD e k=rangeD e k:=if_neg h
def rangesD (e:Nat→Addr) (c:Config):D:=if (checkP c).1=0 then condD e (outI c) else structD (checkP c).1 (checkP c).2
theorem bounds_outside_pc (v a b:Int):PC Tryd.prog [] 29 [I v,I a,I b] (· = D.v (.bool (outsideB v a b))):=by
 refine PC.of (N:=15) Tryd.func29 rfl rfl (Nat.le_of_ble_eq_true rfl) ?_
 refine PW.sr [0,1,2] 0 trivial ?_
 refine PW.sr [6] 0 trivial ?_
 refine PW.ret ?_
 refine retQ_ret (d:=D.v (.bool ((decide (v<a))||(decide (v>b))))) (ps:=[]) kR trivial ?_
 rfl
theorem bounds_checkRanges_pc (e:Nat→Addr) (hA:Apart e) (c:Config) (hp0:c.parts.length<1000000) (hl0:c.links.length<1000000):PC Tryd.prog (errG3 e) 23 [D.r (Config.d c)] (· = rangesD e c):=by
 refine PC.of (N:=60) Tryd.func23 rfl rfl (Nat.le_of_ble_eq_true rfl) ?_
 refine PW.sr [1] 1 trivial ?_
 refine PW.seq ?_
 refine PW.sg ?_
 refine PL.rw 1 [1,6] 1 trivial ?_
 refine PL.gc (A:=[]) (fun _=>(plan_Check_pc e hA c hp0 hl0).weak (errG3_sub e)) ?_
 refine PL.rw 5 [1,3,4] 1 trivial ?_
 refine PL.nl ?_
 refine PW.sr [1,3,4,11] 1 trivial ?_
 refine PW.cd (((checkP c).1) != (0:Int)) (fun hz0 => ?_) (fun hz0 => ?_)
 ·try simp only [boolS,isB_true,isB_false,outsideB_true,outsideB_false] at hz0
  refine PW.sg ?_
  refine PL.rw 3 [4,14] 2 trivial ?_
  refine PL.sl [4,14] 2 ?_
  refine PL.fz 1 (t:=64) [I ((checkP c).1)] ?_
  refine PL.rw 2 [15,16] 2 trivial ?_
  refine PL.sl [15,16] 2 ?_
  refine PL.build (cs:=[D.i 62 (D.q [I ((checkP c).1)] 0),I ((checkP c).2)]) rfl kR kR kR ?_
  refine PL.rw 1 [18] 3 trivial ?_
  refine PL.sl [18] 3 ?_
  refine PL.fz 2 (t:=66) [D.i 62 (D.q [I ((checkP c).1)] 0),I ((checkP c).2)] ?_
  refine PL.rw 2 [2] 3 trivial ?_
  refine PL.nl ?_
  refine PW.ret ?_
  refine retQ_ret (d:=D.i 61 (D.q [D.i 62 (D.q [I ((checkP c).1)] 0),I ((checkP c).2)] 0)) (ps:=[]) kR trivial ?_
  unfold rangesD
  rw [if_neg oM]
  rfl
 ·try simp only [boolS,isB_true,isB_false,outsideB_true,outsideB_false] at hz0
  refine PW.skip ?_
  show PW _ _ _ _ _
  refine PW.seq ?_
  refine PW.block ?_
  refine PW.sg ?_
  refine PL.rw 2 [1,22] 1 trivial ?_
  refine PL.gc (G:=(errG3 e)) (A:=[]) (fun _=>PC.more (bounds_outside_pc c.cycle 1000 1000000)) ?_
  refine PL.rw 1 [1,20] 1 trivial ?_
  refine PL.nl ?_
  refine PW.cd (outsideB c.cycle 1000 1000000) (fun hz1 => ?_) (fun hz1 => ?_)
  ·try simp only [boolS,isB_true,isB_false,outsideB_true,outsideB_false] at hz1
   refine PW.sg ?_
   refine PL.rw 3 [26] 2 trivial ?_
   refine PL.sl [26] 2 ?_
   refine PL.fz 1 (t:=66) [sentD e 7,I 1] ?_
   refine PL.rw 2 [2] 2 trivial ?_
   refine PL.nl ?_
   refine PW.ret ?_
   refine retQ_ret (d:=D.i 61 (D.q [sentD e 7,I 1] 0)) (ps:=[]) kR trivial ?_
   have ho:outI c=1:=by unfold outI; grind
   unfold rangesD
   rw [if_pos oM,ho]
   rfl
  ·try simp only [boolS,isB_true,isB_false,outsideB_true,outsideB_false] at hz1
   refine PW.sg ?_
   refine PL.rw 2 [1,30] 1 trivial ?_
   refine PL.gc (G:=(errG3 e)) (A:=[]) (fun _=>PC.more (bounds_outside_pc c.drift 0 500)) ?_
   refine PL.rw 1 [1,28] 1 trivial ?_
   refine PL.nl ?_
   refine PW.cd (outsideB c.drift 0 500) (fun hz2 => ?_) (fun hz2 => ?_)
   ·try simp only [boolS,isB_true,isB_false,outsideB_true,outsideB_false] at hz2
    refine PW.sg ?_
    refine PL.rw 3 [34] 2 trivial ?_
    refine PL.sl [34] 2 ?_
    refine PL.fz 1 (t:=66) [sentD e 7,I 2] ?_
    refine PL.rw 2 [2] 2 trivial ?_
    refine PL.nl ?_
    refine PW.ret ?_
    refine retQ_ret (d:=D.i 61 (D.q [sentD e 7,I 2] 0)) (ps:=[]) kR trivial ?_
    have ho:outI c=2:=by unfold outI; grind
    unfold rangesD
    rw [if_pos oM,ho]
    rfl
   ·try simp only [boolS,isB_true,isB_false,outsideB_true,outsideB_false] at hz2
    refine PW.sg ?_
    refine PL.rw 2 [1,38] 1 trivial ?_
    refine PL.gc (G:=(errG3 e)) (A:=[]) (fun _=>PC.more (bounds_outside_pc c.rate 0 400000)) ?_
    refine PL.rw 1 [1,36] 1 trivial ?_
    refine PL.nl ?_
    refine PW.cd (outsideB c.rate 0 400000) (fun hz3 => ?_) (fun hz3 => ?_)
    ·try simp only [boolS,isB_true,isB_false,outsideB_true,outsideB_false] at hz3
     refine PW.sg ?_
     refine PL.rw 3 [42] 2 trivial ?_
     refine PL.sl [42] 2 ?_
     refine PL.fz 1 (t:=66) [sentD e 7,I 3] ?_
     refine PL.rw 2 [2] 2 trivial ?_
     refine PL.nl ?_
     refine PW.ret ?_
     refine retQ_ret (d:=D.i 61 (D.q [sentD e 7,I 3] 0)) (ps:=[]) kR trivial ?_
     have ho:outI c=3:=by unfold outI; grind
     unfold rangesD
     rw [if_pos oM,ho]
     rfl
    ·try simp only [boolS,isB_true,isB_false,outsideB_true,outsideB_false] at hz3
     refine PW.sg ?_
     refine PL.rw 2 [1,46] 1 trivial ?_
     refine PL.gc (G:=(errG3 e)) (A:=[]) (fun _=>PC.more (bounds_outside_pc c.ages 1 200)) ?_
     refine PL.rw 1 [1,44] 1 trivial ?_
     refine PL.nl ?_
     refine PW.cd (outsideB c.ages 1 200) (fun hz4 => ?_) (fun hz4 => ?_)
     ·try simp only [boolS,isB_true,isB_false,outsideB_true,outsideB_false] at hz4
      refine PW.sg ?_
      refine PL.rw 3 [50] 2 trivial ?_
      refine PL.sl [50] 2 ?_
      refine PL.fz 1 (t:=66) [sentD e 7,I 4] ?_
      refine PL.rw 2 [2] 2 trivial ?_
      refine PL.nl ?_
      refine PW.ret ?_
      refine retQ_ret (d:=D.i 61 (D.q [sentD e 7,I 4] 0)) (ps:=[]) kR trivial ?_
      have ho:outI c=4:=by unfold outI; grind
      unfold rangesD
      rw [if_pos oM,ho]
      rfl
     ·try simp only [boolS,isB_true,isB_false,outsideB_true,outsideB_false] at hz4
      refine PW.sg ?_
      refine PL.rw 2 [54] 1 trivial ?_
      refine PL.gc (G:=(errG3 e)) (A:=[]) (fun _=>PC.more (bounds_outside_pc c.lost 0 20)) ?_
      refine PL.rw 1 [52] 1 trivial ?_
      refine PL.nl ?_
      refine PW.cd (outsideB c.lost 0 20) (fun hz5 => ?_) (fun hz5 => ?_)
      ·try simp only [boolS,isB_true,isB_false,outsideB_true,outsideB_false] at hz5
       refine PW.sg ?_
       refine PL.rw 3 [58] 2 trivial ?_
       refine PL.sl [58] 2 ?_
       refine PL.fz 1 (t:=66) [sentD e 7,I 5] ?_
       refine PL.rw 2 [2] 2 trivial ?_
       refine PL.nl ?_
       refine PW.ret ?_
       refine retQ_ret (d:=D.i 61 (D.q [sentD e 7,I 5] 0)) (ps:=[]) kR trivial ?_
       have ho:outI c=5:=by unfold outI; grind
       unfold rangesD
       rw [if_pos oM,ho]
       rfl
      ·try simp only [boolS,isB_true,isB_false,outsideB_true,outsideB_false] at hz5
       refine PW.skip ?_
       show PW _ _ _ _ _
       refine PW.sr [2] 1 trivial ?_
       refine PW.ret ?_
       refine retQ_ret (d:=D.v (.nilIface)) (ps:=[]) kR trivial ?_
       have ho:outI c=0:=by unfold outI; grind
       unfold rangesD
       rw [if_pos oM,ho]
       rfl
end Go.Proofs.YtgklghpkfmoogaaDoor.Pl
namespace Go.Proofs.YtgklghpkfmoogaaDoor.Pl
open Go.RowKit Go.Proofs.YtgklghpkfmoogaaDoor.Sm Go.Proofs.YtgklghpkfmoogaaDoor.Dp
set_option maxHeartbeats 4000000
set_option maxRecDepth 100000
set_option linter.unusedVariables false
set_option linter.unusedSimpArgs false
def slotsN (c:Config):Nat→Int
 | 0=>0
 | i+1=>if 3*((portsOf c (i:Int)).length:Int)+(c.parts.getD i default).nodes>slotsN c i then 3*((portsOf c (i:Int)).length:Int)+(c.parts.getD i default).nodes else slotsN c i
def longI (c:Config):Int:=c.lead+slotsN c c.parts.length*c.slot+c.window
def timesI (c:Config):Int :=
 if c.window<3*edgeI c∨20000<c.window then 6 else if c.slot<2*c.window+1∨1000000<c.slot then 7 else if c.lead<c.window∨1000000<c.lead then 8
 else if c.cycle<longI c then 9 else if c.rate*c.cycle<jumpI c*1000000 then 10 else 0
def waitsI (c:Config):Int :=
 if c.ages<((c.parts.length:Int)-1)*(c.lost+1)+1 then 11 else if c.listen<(c.parts.length:Int)*(c.lost+1)+2∨60000<c.listen then 12
 else if c.span<(c.parts.length:Int)*(c.lost+1)+2∨60000<c.span then 13 else if 60000<c.listen+(c.parts.length:Int)*c.span then 14 else if c.room<(c.parts.length:Int)+2∨64<c.room then 15 else 0
theorem nodes_in {c:Config} (hg:(checkP c).1=0) {i:Nat} (hi:i<c.parts.length):1≤(c.parts.getD i default).nodes∧(c.parts.getD i default).nodes≤12:=by
 have:=good_nodes (good_of hg) (part:=(i:Int)) ⟨by omega,by omega⟩
 simpa using this
theorem slotsN_in {c:Config} (hg:(checkP c).1=0):∀ i,i≤c.parts.length→0≤slotsN c i∧slotsN c i≤48
 | 0,_=>by simp [slotsN]
 | i+1,hi=>by
  have h1:=slotsN_in hg i oM
  have h2:=nodes_in hg (i:=i) oM
  have h3:=portsOf_len c (i:Int)
  unfold slotsN
  split <;> omega
theorem parts_in {c:Config} (hg:(checkP c).1=0):1≤c.parts.length∧c.parts.length≤6:=(good_of hg).len
end Go.Proofs.YtgklghpkfmoogaaDoor.Pl
