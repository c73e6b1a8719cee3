/- Chapter 8: ticks.Floor, Scale, package clock and the document's own clock. -/
import Derived.Test.YtdomlccfjnkbjaaGreatDoorDpC
namespace Go.Proofs.YtdomlccfjnkbjaaGreatDoor.Pl
open Go.RowKit Go.Proofs.YtdomlccfjnkbjaaGreatDoor.Sm Go.Proofs.YtdomlccfjnkbjaaGreatDoor.Dp
set_option maxHeartbeats 4000000
set_option maxRecDepth 100000
set_option linter.unusedVariables false
set_option linter.unusedSimpArgs false
def floorI (a b:Int):Int:=if b<1 then 0 else a/b
def floorB (b:Int):Bool:=decide (1≤b)
def timeB (x:Int):Bool:=decide (x ≥ -1099511627776)&&decide (x≤1099511627776)
def inS (x p:Int):Prop:=(-1099511627776≤x∧x≤1099511627776)∧(-1000000≤p∧p≤1000000)
instance (x p:Int):Decidable (inS x p):=inferInstanceAs (Decidable ((-1099511627776≤x∧x≤1099511627776)∧(-1000000≤p∧p≤1000000)))
def scaleI (x p:Int):Int:=if inS x p then x*p/1000000 else 0
def scaleB (x p:Int):Bool:=decide (inS x p)
theorem ediv_is {a b q r:Int} (hb:0<b) (h:a=b*q+r) (h0:0≤r) (h1:r<b):a/b=q :=
 ((Int.ediv_emod_unique (a:=a) (b:=b) (q:=q) (r:=r) hb).2 ⟨by omega,h0,h1⟩).1
theorem tdiv_in {a b:Int} (ha : -9223372036854775808≤a∧a≤9223372036854775807) (hb:1≤b) : -9223372036854775808≤a.tdiv b∧a.tdiv b≤9223372036854775807:=by
 have h1:=Int.mul_tdiv_add_tmod a b
 have hb0:(0:Int)<b:=by omega
 by_cases h:0≤a
 ·have h2:=Int.tmod_nonneg b h
  have h3:0≤a.tdiv b:=Int.tdiv_nonneg h oM
  have h4:a.tdiv b*1≤a.tdiv b*b:=Int.mul_le_mul_of_nonneg_left hb h3
  rw [Int.mul_comm] at h1
  omega
 ·have h2:(-a).tdiv b = -(a.tdiv b):=Int.neg_tdiv ..
  have h3:0≤(-a).tdiv b:=Int.tdiv_nonneg oM oM
  have h5:=Int.mul_tdiv_add_tmod (-a) b
  have h6:=Int.tmod_nonneg (a := -a) b oM
  have h4:(-a).tdiv b*1≤(-a).tdiv b*b:=Int.mul_le_mul_of_nonneg_left hb h3
  rw [Int.mul_comm] at h5
  omega
theorem tmod_lo {a b:Int} (hb:1≤b) : -b<a.tmod b:=by
 have h:=Int.tmod_lt_of_pos (-a) (show 0<b by omega)
 rw [Int.neg_tmod] at h
 omega
theorem floor_up {a b:Int} (ha : -9223372036854775808≤a∧a≤9223372036854775807) (hb:1≤b) (hr:0≤a.tmod b):IntKind.i64.wrap (a.tdiv b)=a/b:=by
 have h1:=Int.mul_tdiv_add_tmod a b
 have h2:=Int.tmod_lt_of_pos a (show 0<b by omega)
 have h3:=tdiv_in ha hb
 rw [Ev.wrap_i64 h3.1 h3.2]
 exact (ediv_is oM h1.symm hr h2).symm
theorem floor_down {a b:Int} (ha : -9223372036854775808≤a∧a≤9223372036854775807) (hb:1≤b) (hr:a.tmod b<0):IntKind.i64.wrap (IntKind.i64.wrap (a.tdiv b)-1)=a/b:=by
 have h1:=Int.mul_tdiv_add_tmod a b
 have h2:=tmod_lo (a:=a) hb
 have h3:=tdiv_in ha hb
 have h4:a<0:=by
  apply Int.not_le.1
  intro h0
  have:=Int.tmod_nonneg b h0
  omega
 have h5:2≤b:=by
  apply Int.not_lt.1
  intro hlt
  have:b=1:=by omega
  subst this
  simp at hr
 have h6 : -9223372036854775808<a.tdiv b:=by
  have h7:(-a).tdiv b = -(a.tdiv b):=Int.neg_tdiv ..
  have h8:0≤(-a).tdiv b:=Int.tdiv_nonneg oM oM
  have h9:(-a).tdiv b*2≤(-a).tdiv b*b:=Int.mul_le_mul_of_nonneg_left h5 h8
  have h10:=Int.mul_tdiv_add_tmod (-a) b
  have h11:=Int.tmod_nonneg (a := -a) b oM
  rw [Int.mul_comm] at h10
  omega
 rw [Ev.wrap_i64 h3.1 h3.2,Ev.wrap_i64 oM oM]
 refine (ediv_is (q:=a.tdiv b-1) (r:=a.tmod b+b) oM ?_ oM oM).symm
 rw [Int.mul_sub,Int.mul_one]
 omega
theorem mul_abs {x p A B:Int} (hA:0≤A) (hx : -A≤x∧x≤A) (hp : -B≤p∧p≤B) : -(A*B)≤x*p∧x*p≤A*B:=by
 have hB:0≤B:=by omega
 rcases Int.le_total 0 x with h|h <;> rcases Int.le_total 0 p with h'|h'
 ·have h1:=Int.mul_nonneg h h'
  have h2:x*p≤A*B:=Int.mul_le_mul hx.2 hp.2 h' hA
  have:=Int.mul_nonneg hA hB
  omega
 ·have h1:=Int.mul_nonneg h (show 0 ≤ -p by omega)
  have h2:x * -p≤A*B:=Int.mul_le_mul hx.2 oM oM hA
  rw [Int.mul_neg] at h1 h2
  omega
 ·have h1:=Int.mul_nonneg (show 0 ≤ -x by omega) h'
  have h2 : -x*p≤A*B:=Int.mul_le_mul oM hp.2 h' hA
  rw [Int.neg_mul] at h1 h2
  omega
 ·have h1:=Int.mul_nonneg (show 0 ≤ -x by omega) (show 0 ≤ -p by omega)
  have h2 : -x * -p≤A*B:=Int.mul_le_mul oM oM oM hA
  rw [Int.neg_mul_neg] at h1 h2
  omega
theorem scale_mul {x p:Int} (h:inS x p):IntKind.i64.wrap (x*p)=x*p:=by
 have:=mul_abs (A:=1099511627776) (B:=1000000) oM h.1 h.2
 exact Ev.wrap_i64 oM oM
theorem scale_in (x p:Int) : -1099511627776≤scaleI x p∧scaleI x p≤1099511627776:=by
 unfold scaleI
 split
 ·rename_i h
  have:=mul_abs (A:=1099511627776) (B:=1000000) oM h.1 h.2
  omega
 ·omega
theorem ticks_Floor_pc (a b:Int) (ha : -9223372036854775808≤a∧a≤9223372036854775807):PC Tryz.prog [] 151 [I a,I b] (· = D.t [I (floorI a b),D.v (.bool (floorB b))]):=by
 refine PC.of (N:=19) Tryz.func151 rfl rfl (Nat.le_of_ble_eq_true rfl) ?_
 refine PW.a [0,1] 0 (PW.q [0,1,8] 0 (PW.cd (decide (b<(1:Int))) (fun hz0 => ?_) (fun hz0 => ?_)))
 ·try simp only [boolS] at hz0
  refine PW.t [4,5] 0 (retQ_ret (d:=D.t [I 0,D.v (.bool false)]) (ps:=[]) kR trivial ?_)
  have hn:decide (1≤b)=false:=by simp; omega
  rw [floorI,if_pos oM,floorB,hn]
 ·try simp only [boolS] at hz0
  refine PW.k (PW.w 2 [0,1,9,10] 0 (PL.div (k := .i64) (A:=[]) a b (IntKind.i64.wrap (a.tdiv b)) rfl (by first|exact .inl ⟨rfl,rfl⟩|exact .inr ⟨rfl,rfl⟩) kR kR kR kR kR (fun _=>by omega) (PL.n 1 [0,1,6] 0 (PW.seq (PW.w 2 [6,12,13] 0 (PL.div (k := .i64) (A:=[]) a b (a.tmod b) rfl (by first|exact .inl ⟨rfl,rfl⟩|exact .inr ⟨rfl,rfl⟩) kR kR kR kR kR (fun _=>by omega) (PL.n 1 [6,15] 0 ?_)))))))
  refine PW.cd (decide ((a.tmod b)<(0:Int))) (fun hz1 => ?_) (fun hz1 => ?_)
  ·try simp only [boolS] at hz1
   refine PW.b [6] 0 ?_
   show PW _ _ _ _ _
   refine PW.t [4,5] 0 (retQ_ret (d:=D.t [I (IntKind.i64.wrap ((IntKind.i64.wrap (a.tdiv b))-1)),D.v (.bool true)]) (ps:=[]) kR trivial ?_)
   have hn:decide (1≤b)=true:=by simp; omega
   rw [floorI,if_neg oM,floorB,hn,floor_down ha oM oM]
  ·try simp only [boolS] at hz1
   refine PW.k (PW.t [4,5] 0 (retQ_ret (d:=D.t [I (IntKind.i64.wrap (a.tdiv b)),D.v (.bool true)]) (ps:=[]) kR trivial ?_))
   have hn:decide (1≤b)=true:=by simp; omega
   rw [floorI,if_neg oM,floorB,hn,floor_up ha oM oM]
theorem drumlineref1_Floor_pc (a b:Int) (ha : -9223372036854775808≤a∧a≤9223372036854775807):PC Tryz.prog [] 160 [I a,I b] (· = D.t [I (floorI a b),D.v (.bool (floorB b))]):=by
 refine PC.of (N:=19) Tryz.func160 rfl rfl (Nat.le_of_ble_eq_true rfl) ?_
 refine PW.a [0,1] 0 (PW.q [0,1,8] 0 (PW.cd (decide (b<(1:Int))) (fun hz0 => ?_) (fun hz0 => ?_)))
 ·try simp only [boolS] at hz0
  refine PW.t [4,5] 0 (retQ_ret (d:=D.t [I 0,D.v (.bool false)]) (ps:=[]) kR trivial ?_)
  have hn:decide (1≤b)=false:=by simp; omega
  rw [floorI,if_pos oM,floorB,hn]
 ·try simp only [boolS] at hz0
  refine PW.k (PW.w 2 [0,1,9,10] 0 (PL.div (k := .i64) (A:=[]) a b (IntKind.i64.wrap (a.tdiv b)) rfl (by first|exact .inl ⟨rfl,rfl⟩|exact .inr ⟨rfl,rfl⟩) kR kR kR kR kR (fun _=>by omega) (PL.n 1 [0,1,6] 0 (PW.seq (PW.w 2 [6,12,13] 0 (PL.div (k := .i64) (A:=[]) a b (a.tmod b) rfl (by first|exact .inl ⟨rfl,rfl⟩|exact .inr ⟨rfl,rfl⟩) kR kR kR kR kR (fun _=>by omega) (PL.n 1 [6,15] 0 ?_)))))))
  refine PW.cd (decide ((a.tmod b)<(0:Int))) (fun hz1 => ?_) (fun hz1 => ?_)
  ·try simp only [boolS] at hz1
   refine PW.b [6] 0 ?_
   show PW _ _ _ _ _
   refine PW.t [4,5] 0 (retQ_ret (d:=D.t [I (IntKind.i64.wrap ((IntKind.i64.wrap (a.tdiv b))-1)),D.v (.bool true)]) (ps:=[]) kR trivial ?_)
   have hn:decide (1≤b)=true:=by simp; omega
   rw [floorI,if_neg oM,floorB,hn,floor_down ha oM oM]
  ·try simp only [boolS] at hz1
   refine PW.k (PW.t [4,5] 0 (retQ_ret (d:=D.t [I (IntKind.i64.wrap (a.tdiv b)),D.v (.bool true)]) (ps:=[]) kR trivial ?_))
   have hn:decide (1≤b)=true:=by simp; omega
   rw [floorI,if_neg oM,floorB,hn,floor_up ha oM oM]
theorem drumlineref1_Time_pc (x:Int):PC Tryz.prog [] 70 [I x] (· = D.v (.bool (timeB x))):=by
 refine PC.of (N:=9) Tryz.func70 rfl rfl (Nat.le_of_ble_eq_true rfl) ?_
 refine PW.a [0] 0 (PW.t [2] 0 (retQ_ret (d:=D.v (.bool ((decide (x≥((-1099511627776):Int)))&&(decide (x≤(1099511627776:Int)))))) (ps:=[]) kR trivial ?_))
 rfl
theorem ticks_Scale_pc (x p:Int):PC Tryz.prog [] 116 [I x,I p] (· = D.t [I (scaleI x p),D.v (.bool (scaleB x p))]):=by
 refine PC.of (N:=26) Tryz.func116 rfl rfl (Nat.le_of_ble_eq_true rfl) ?_
 refine PW.a [0,1] 0 (PW.q [0,1,19] 0 (PW.cd ((((decide (x<((-1099511627776):Int)))||(decide (x>(1099511627776:Int))))||(decide (p<((-1000000):Int))))||(decide (p>(1000000:Int)))) (fun hz0 => ?_) (fun hz0 => ?_)))
 ·try simp only [boolS,timeB] at hz0
  have hS:¬ inS x p:=by unfold inS; omega
  refine PW.t [4,5] 0 (retQ_ret (d:=D.t [I 0,D.v (.bool false)]) (ps:=[]) kR trivial ?_)
  have hn:scaleB x p=false:=by unfold scaleB; simp [hS]
  rw [scaleI,if_neg hS,hn]
 ·try simp only [boolS,timeB] at hz0
  have hS:inS x p:=by unfold inS; omega
  refine PW.k (PW.w 3 [22] 0 (PL.gc (A:=[]) (fun _=>(show PC Tryz.prog [] 151 [I (IntKind.i64.wrap (x*p)),I 1000000] (· = D.t [I (x*p/1000000),D.v (.bool true)]) from by rw [scale_mul hS]; exact ticks_Floor_pc (x*p) 1000000 (by have:=mul_abs (A:=1099511627776) (B:=1000000) oM hS.1 hS.2; omega))) (PL.n 4 [4,5] 0 (PW.ret (retQ_ret (d:=D.t [I (x*p/1000000),D.v (.bool true)]) (ps:=[]) kR trivial ?_)))))
  have hn:scaleB x p=true:=by unfold scaleB; simp [hS]
  rw [scaleI,if_pos hS,hn]
theorem drumlineref1_Scale_pc (x p:Int):PC Tryz.prog [] 126 [I x,I p] (· = D.t [I (scaleI x p),D.v (.bool (scaleB x p))]):=by
 refine PC.of (N:=23) Tryz.func126 rfl rfl (Nat.le_of_ble_eq_true rfl) ?_
 refine PW.a [0,1] 0 (PW.seq (PW.w 1 [0,1,6] 0 (PL.gc (A:=[]) (fun _=>drumlineref1_Time_pc x) (PL.n 9 [0,1,16] 0 (PW.cd (((!(timeB x))||(decide (p<((-1000000):Int))))||(decide (p>(1000000:Int)))) (fun hz0 => ?_) (fun hz0 => ?_))))))
 ·try simp only [boolS,timeB] at hz0
  have hS:¬ inS x p:=by unfold inS; omega
  refine PW.t [4,5] 0 (retQ_ret (d:=D.t [I 0,D.v (.bool false)]) (ps:=[]) kR trivial ?_)
  have hn:scaleB x p=false:=by unfold scaleB; simp [hS]
  rw [scaleI,if_neg hS,hn]
 ·try simp only [boolS,timeB] at hz0
  have hS:inS x p:=by unfold inS; omega
  refine PW.k (PW.w 3 [19] 0 (PL.gc (A:=[]) (fun _=>(show PC Tryz.prog [] 160 [I (IntKind.i64.wrap (x*p)),I 1000000] (· = D.t [I (x*p/1000000),D.v (.bool true)]) from by rw [scale_mul hS]; exact drumlineref1_Floor_pc (x*p) 1000000 (by have:=mul_abs (A:=1099511627776) (B:=1000000) oM hS.1 hS.2; omega))) (PL.n 4 [4,5] 0 (PW.ret (retQ_ret (d:=D.t [I (x*p/1000000),D.v (.bool true)]) (ps:=[]) kR trivial ?_)))))
  have hn:scaleB x p=true:=by unfold scaleB; simp [hS]
  rw [scaleI,if_pos hS,hn]
def realI (x p:Int):Int:=IntKind.i64.wrap (x-scaleI x p)
theorem timeB_iff {x:Int}:timeB x=true ↔ -1099511627776≤x∧x≤1099511627776:=by simp [timeB]
theorem timeB_not {x:Int}:timeB x=false↔¬ (-1099511627776≤x∧x≤1099511627776):=by rw [← timeB_iff]; simp
theorem clock_Real_pc (x p:Int):PC Tryz.prog [] 90 [I x,I p] (· = I (realI x p)):=by
 refine PC.of (N:=16) Tryz.func90 rfl rfl (Nat.le_of_ble_eq_true rfl) ?_
 refine PW.a [0,1] 0 (PW.w 2 [0,8,9] 0 (PL.gc (A:=[]) (fun _=>ticks_Scale_pc x p) (PL.n 5 [0,5] 0 (PW.t [4] 0 (retQ_ret (d:=I (IntKind.i64.wrap (x-(scaleI x p)))) (ps:=[]) kR trivial ?_)))))
 rfl
theorem drumlineref5_Real_pc (x p:Int):PC Tryz.prog [] 94 [I x,I p] (· = I (realI x p)):=by
 refine PC.of (N:=16) Tryz.func94 rfl rfl (Nat.le_of_ble_eq_true rfl) ?_
 refine PW.a [0,1] 0 (PW.w 2 [0,8,9] 0 (PL.gc (A:=[]) (fun _=>drumlineref1_Scale_pc x p) (PL.n 5 [0,5] 0 (PW.t [4] 0 (retQ_ret (d:=I (IntKind.i64.wrap (x-(scaleI x p)))) (ps:=[]) kR trivial ?_)))))
 rfl
end Go.Proofs.YtdomlccfjnkbjaaGreatDoor.Pl
