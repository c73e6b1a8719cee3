/- Chapter 12's law GaugeTrue. -/
import Derived.Test.YtgklghpkfmoogaaDoorGaOne
import Derived.Test.YtgklghpkfmoogaaDoorCkTwo
namespace Go.Proofs.YtgklghpkfmoogaaDoor.Pl
open Go.RowKit Go.Proofs.YtgklghpkfmoogaaDoor.Sm Go.Proofs.YtgklghpkfmoogaaDoor.Dp
set_option maxHeartbeats 4000000
set_option maxRecDepth 100000
set_option linter.unusedVariables false
set_option linter.unusedSimpArgs false
theorem real_in' (x p:Int) (hx : -1099511627776≤x∧x≤1099511627776) : -2199023255552≤realI x p∧realI x p≤2199023255552:=by
 have:=scale_in x p
 rw [realI,Ev.wrap_i64 oM oM]
 omega
theorem begin_is {x p t:Int} (hx : -1099511627776≤x∧x≤1099511627776) (ht : -1099511627776≤t∧t≤1099511627776):beginB x t=true∧beginI x p t=t-realI x p:=by
 have hr:=real_in' x p hx
 have hb:beginB x t=true:=by
  unfold beginB
  rw [Bool.and_eq_true,timeB_iff,timeB_iff]
  exact ⟨hx,ht⟩
 refine ⟨hb,?_⟩
 rw [beginI,if_pos hb,Ev.wrap_i64 oM oM]
theorem real_small {c:Config} (hR:InR c) {x p r:Int} (hx:0≤x∧x≤c.cycle) (hp : -c.drift≤p∧p≤c.drift) (hr : -c.rate≤r∧r≤c.rate) : -2000000≤realI x (p+r)∧realI x (p+r)≤2000000:=by
 have r1:=hR.cyc
 have r2:=hR.dri
 have r3:=hR.rat
 have h1:=mul_abs (x:=x) (p:=p+r) (A:=1000000) (B:=1000000) oM oM oM
 rw [real_is oM oM]
 omega
theorem drumlinelaw12_GaugeTrue_pc (e:Nat→Addr) (hA:Apart e) (n s p q r x:Int) (c:Config) (hM:PC Tryd.prog (errG3 e) 5 [I n] (· = D.r (Config.d c))) (hp0:c.parts.length<1000000) (hl0:c.links.length<1000000) (N:Nums c) (hr:rangedB c=true) (hx:0≤x∧x≤65535):PC Tryd.prog (errG3 e) 3 [I n,I s,D.r [I p,I q],I r,D.v (.int .u16 x)] (· = D.v (.bool true)):=by
 refine PC.of (N:=108) Tryd.func3 rfl rfl (Nat.le_of_ble_eq_true rfl) ?_
 obtain ⟨h,he,hj⟩:=N.all
 have hR:=inR_of h
 have n1:=N.cyc
 have n5:=N.dri
 have n6:=N.rat
 have r1:=hR.cyc
 have wd:IntKind.i64.wrap (0-c.drift) = -c.drift:=by rw [Ev.wrap_i64 oM oM]; omega
 have wr:IntKind.i64.wrap (0-c.rate) = -c.rate:=by rw [Ev.wrap_i64 oM oM]; omega
 have hm:0≤(IntKind.i64.wrap x).tmod c.cycle∧(IntKind.i64.wrap x).tmod c.cycle<c.cycle:=by rw [Ev.wrap_i64 oM oM]; exact ⟨Int.tmod_nonneg _ hx.1,Int.tmod_lt_of_pos _ oM⟩
 refine PW.sr [0,1,3,4,7] 1 trivial ?_
 refine PW.seq ?_
 refine PW.sg ?_
 refine PL.gc (G:=(errG3 e)) (A:=[]) (fun _=>PC.more (drumlinelaw12_alive_pc)) ?_
 refine PL.rw 9 [0,1,3,4,7,26] 1 trivial ?_
 refine PL.nl ?_
 refine PW.cd ((false||(decide (s<((-549755813888):Int))))||(decide (s>(549755813888:Int)))) (fun hz0 => ?_) (fun hz0 => ?_)
 ·try simp only [boolS,isB_true,isB_false] at hz0
  refine PW.sg ?_
  refine PL.gc (G:=(errG3 e)) (A:=[]) (fun _=>PC.more (drumlinelaw12_alive_pc)) ?_
  refine PL.rw 1 [10] 1 trivial ?_
  refine PL.nl ?_
  refine PW.ret ?_
  refine retQ_ret (d:=D.v (.bool true)) (ps:=[]) kR trivial ?_
  rfl
 ·try simp only [boolS,isB_true,isB_false] at hz0
  refine PW.skip ?_
  show PW _ _ _ _ _
  refine PW.sg ?_
  refine PL.rw 1 [1,3,4,7,28] 1 trivial ?_
  refine PL.gc (A:=[]) (fun _=>hM) ?_
  refine PL.rw 2 [1,3,4,7,11] 2 trivial ?_
  refine PL.nl ?_
  refine PW.seq ?_
  refine PW.open [] kR ?_
  refine PO.tk [0,1,2,3,4,5] 6 [1,3,4,11,12,13] 0 (p:=(0≤(0:Int)∧(0:Int)<((2:Nat):Int))∧(0≤(1:Int)∧(1:Int)<((2:Nat):Int))) oM (fun _ _ h=>h) ?_
  refine PO.done kR ?_
  show PW _ _ _ _ _
  refine PW.seq ?_
  refine PW.sr [1,3,4,11,12,13,70] 2 trivial ?_
  refine PW.cd ((((((decide (p<(IntKind.i64.wrap (0-c.drift))))||(decide (p>c.drift)))||(decide (q<(IntKind.i64.wrap (0-c.drift)))))||(decide (q>c.drift)))||(decide (r<(IntKind.i64.wrap (0-c.rate)))))||(decide (r>c.rate))) (fun hz1 => ?_) (fun hz1 => ?_)
  ·try simp only [boolS,isB_true,isB_false] at hz1
   refine PW.sr [10] 2 trivial ?_
   refine PW.ret ?_
   refine retQ_ret (d:=D.v (.bool true)) (ps:=[]) kR trivial ?_
   rfl
  ·try simp only [boolS,isB_true,isB_false] at hz1
   refine PW.skip ?_
   show PW _ _ _ _ _
   refine PW.sg ?_
   refine PL.rw 4 [1,3,11,12,13,72,74] 2 trivial ?_
   refine PL.div (k := .i64) (A:=[]) (IntKind.i64.wrap x) c.cycle ((IntKind.i64.wrap x).tmod c.cycle) rfl (by first|exact .inl ⟨rfl,rfl⟩|exact .inr ⟨rfl,rfl⟩) kR kR kR kR kR (fun _=>by omega) ?_
   refine PL.rw 1 [1,3,11,12,13,14] 2 trivial ?_
   refine PL.nl ?_
   refine PW.sg ?_
   refine PL.rw 9 [1,11,77,80,81,82,85] 2 trivial ?_
   refine PL.gc (G:=(errG3 e)) (A:=[]) (fun _=>PC.more (clock_Real_pc ((IntKind.i64.wrap x).tmod c.cycle) (IntKind.i64.wrap (p+r)))) ?_
   refine PL.rw 1 [1,11,77,80,87] 2 trivial ?_
   refine PL.gc (G:=(errG3 e)) (A:=[]) (fun _=>PC.more (gauge_Begin_pc ((IntKind.i64.wrap x).tmod c.cycle) (IntKind.i64.wrap (q+r)) (IntKind.i64.wrap (s+(realI ((IntKind.i64.wrap x).tmod c.cycle) (IntKind.i64.wrap (p+r))))))) ?_
   refine PL.rw 5 [1,11,15,16] 2 trivial ?_
   refine PL.nl ?_
   refine PW.sg ?_
   refine PL.rw 6 [1,11,15,92,95,96] 2 trivial ?_
   refine PL.gc (d:=I (edgeI c)) (A:=[(92,true)]) (fun _=>(bounds_Edge_pc e hA c hp0 hl0).eq (congrArg I (if_pos hr))) ?_
   refine PL.rw 7 [100,103,104] 2 trivial ?_
   refine PL.gc (d:=I (edgeI c)) (A:=[(100,true)]) (fun _=>(bounds_Edge_pc e hA c hp0 hl0).eq (congrArg I (if_pos hr))) ?_
   refine PL.rw 3 [10] 2 trivial ?_
   refine PL.nl ?_
   refine PW.ret ?_
   refine retQ_ret (d:=D.v (.bool (((beginB ((IntKind.i64.wrap x).tmod c.cycle) (IntKind.i64.wrap (s+(realI ((IntKind.i64.wrap x).tmod c.cycle) (IntKind.i64.wrap (p+r))))))&&(decide ((IntKind.i64.wrap ((beginI ((IntKind.i64.wrap x).tmod c.cycle) (IntKind.i64.wrap (q+r)) (IntKind.i64.wrap (s+(realI ((IntKind.i64.wrap x).tmod c.cycle) (IntKind.i64.wrap (p+r))))))-s))<(edgeI c))))&&(decide ((IntKind.i64.wrap (s-(beginI ((IntKind.i64.wrap x).tmod c.cycle) (IntKind.i64.wrap (q+r)) (IntKind.i64.wrap (s+(realI ((IntKind.i64.wrap x).tmod c.cycle) (IntKind.i64.wrap (p+r))))))))<(edgeI c)))))) (ps:=[]) kR trivial ?_
   simp only [wd,wr] at hz1
   generalize (IntKind.i64.wrap x).tmod c.cycle=y at hm ⊢
   have w2:IntKind.i64.wrap (p+r)=p+r:=Ev.wrap_i64 oM oM
   have w3:IntKind.i64.wrap (q+r)=q+r:=Ev.wrap_i64 oM oM
   have hr1:=real_small hR (x:=y) (p:=p) (r:=r) oM oM oM
   have hap:=real_apart hR (x:=y) (p:=p) (q:=q) (r:=r) oM oM oM oM
   have w4:IntKind.i64.wrap (s+realI y (p+r))=s+realI y (p+r):=Ev.wrap_i64 oM oM
   have hb:=begin_is (x:=y) (p:=q+r) (t:=s+realI y (p+r)) oM oM
   simp only [w2,w3,w4,hb.1,hb.2]
   rw [Ev.wrap_i64 (x:=s+realI y (p+r)-realI y (q+r)-s) oM oM,Ev.wrap_i64 (x:=s-(s+realI y (p+r)-realI y (q+r))) oM oM]
   have d1:decide (s+realI y (p+r)-realI y (q+r)-s<edgeI c)=true:=decide_eq_true oM
   have d2:decide (s-(s+realI y (p+r)-realI y (q+r))<edgeI c)=true:=decide_eq_true oM
   rw [d1,d2]
   rfl
end Go.Proofs.YtgklghpkfmoogaaDoor.Pl
