/- Chapter 10: package guard and the document's own Late and Pass. -/
import Derived.Test.YtdomlccfjnkbjaaGreatDoorDpC
import Derived.Test.YtdomlccfjnkbjaaGreatDoorLsArg
namespace Go.Proofs.YtdomlccfjnkbjaaGreatDoor.Pl
open Go.RowKit Go.Proofs.YtdomlccfjnkbjaaGreatDoor.Sm Go.Proofs.YtdomlccfjnkbjaaGreatDoor.Dp
set_option maxHeartbeats 4000000
set_option maxRecDepth 100000
set_option linter.unusedVariables false
set_option linter.unusedSimpArgs false
def floorI (a b:Int):Int:=if b<1 then 0 else a/b
def floorB (b:Int):Bool:=decide (1≤b)
def timeB (x:Int):Bool:=decide (x ≥ -1099511627776)&&decide (x≤1099511627776)
def inS (x p:Int):Prop:=(-1099511627776≤x∧x≤1099511627776)∧(-1000000≤p∧p≤1000000)
instance (x p:Int):Decidable (inS x p):=inferInstanceAs (Decidable ((-1099511627776≤x∧x≤1099511627776)∧(-1000000≤p∧p≤1000000)))
def scaleI (x p:Int):Int:=if inS x p then x*p/1000000 else 0
def scaleB (x p:Int):Bool:=decide (inS x p)
theorem ediv_is {a b q r:Int} (hb:0<b) (h:a=b*q+r) (h0:0≤r) (h1:r<b):a/b=q :=
 ((Int.ediv_emod_unique (a:=a) (b:=b) (q:=q) (r:=r) hb).2 ⟨by omega,h0,h1⟩).1
theorem tdiv_in {a b:Int} (ha : -9223372036854775808≤a∧a≤9223372036854775807) (hb:1≤b) : -9223372036854775808≤a.tdiv b∧a.tdiv b≤9223372036854775807:=by
 have h1:=Int.mul_tdiv_add_tmod a b
 have hb0:(0:Int)<b:=by omega
 by_cases h:0≤a
 ·have h2:=Int.tmod_nonneg b h
  have h3:0≤a.tdiv b:=Int.tdiv_nonneg h oM
  have h4:a.tdiv b*1≤a.tdiv b*b:=Int.mul_le_mul_of_nonneg_left hb h3
  rw [Int.mul_comm] at h1
  omega
 ·have h2:(-a).tdiv b = -(a.tdiv b):=Int.neg_tdiv ..
  have h3:0≤(-a).tdiv b:=Int.tdiv_nonneg oM oM
  have h5:=Int.mul_tdiv_add_tmod (-a) b
  have h6:=Int.tmod_nonneg (a := -a) b oM
  have h4:(-a).tdiv b*1≤(-a).tdiv b*b:=Int.mul_le_mul_of_nonneg_left hb h3
  rw [Int.mul_comm] at h5
  omega
theorem tmod_lo {a b:Int} (hb:1≤b) : -b<a.tmod b:=by
 have h:=Int.tmod_lt_of_pos (-a) (show 0<b by omega)
 rw [Int.neg_tmod] at h
 omega
theorem floor_up {a b:Int} (ha : -9223372036854775808≤a∧a≤9223372036854775807) (hb:1≤b) (hr:0≤a.tmod b):IntKind.i64.wrap (a.tdiv b)=a/b:=by
 have h1:=Int.mul_tdiv_add_tmod a b
 have h2:=Int.tmod_lt_of_pos a (show 0<b by omega)
 have h3:=tdiv_in ha hb
 rw [Ev.wrap_i64 h3.1 h3.2]
 exact (ediv_is oM h1.symm hr h2).symm
theorem floor_down {a b:Int} (ha : -9223372036854775808≤a∧a≤9223372036854775807) (hb:1≤b) (hr:a.tmod b<0):IntKind.i64.wrap (IntKind.i64.wrap (a.tdiv b)-1)=a/b:=by
 have h1:=Int.mul_tdiv_add_tmod a b
 have h2:=tmod_lo (a:=a) hb
 have h3:=tdiv_in ha hb
 have h4:a<0:=by
  apply Int.not_le.1
  intro h0
  have:=Int.tmod_nonneg b h0
  omega
 have h5:2≤b:=by
  apply Int.not_lt.1
  intro hlt
  have:b=1:=by omega
  subst this
  simp at hr
 have h6 : -9223372036854775808<a.tdiv b:=by
  have h7:(-a).tdiv b = -(a.tdiv b):=Int.neg_tdiv ..
  have h8:0≤(-a).tdiv b:=Int.tdiv_nonneg oM oM
  have h9:(-a).tdiv b*2≤(-a).tdiv b*b:=Int.mul_le_mul_of_nonneg_left h5 h8
  have h10:=Int.mul_tdiv_add_tmod (-a) b
  have h11:=Int.tmod_nonneg (a := -a) b oM
  rw [Int.mul_comm] at h10
  omega
 rw [Ev.wrap_i64 h3.1 h3.2,Ev.wrap_i64 oM oM]
 refine (ediv_is (q:=a.tdiv b-1) (r:=a.tmod b+b) oM ?_ oM oM).symm
 rw [Int.mul_sub,Int.mul_one]
 omega
theorem mul_abs {x p A B:Int} (hA:0≤A) (hx : -A≤x∧x≤A) (hp : -B≤p∧p≤B) : -(A*B)≤x*p∧x*p≤A*B:=by
 have hB:0≤B:=by omega
 rcases Int.le_total 0 x with h|h <;> rcases Int.le_total 0 p with h'|h'
 ·have h1:=Int.mul_nonneg h h'
  have h2:x*p≤A*B:=Int.mul_le_mul hx.2 hp.2 h' hA
  have:=Int.mul_nonneg hA hB
  omega
 ·have h1:=Int.mul_nonneg h (show 0 ≤ -p by omega)
  have h2:x * -p≤A*B:=Int.mul_le_mul hx.2 oM oM hA
  rw [Int.mul_neg] at h1 h2
  omega
 ·have h1:=Int.mul_nonneg (show 0 ≤ -x by omega) h'
  have h2 : -x*p≤A*B:=Int.mul_le_mul oM hp.2 h' hA
  rw [Int.neg_mul] at h1 h2
  omega
 ·have h1:=Int.mul_nonneg (show 0 ≤ -x by omega) (show 0 ≤ -p by omega)
  have h2 : -x * -p≤A*B:=Int.mul_le_mul oM oM oM hA
  rw [Int.neg_mul_neg] at h1 h2
  omega
theorem scale_mul {x p:Int} (h:inS x p):IntKind.i64.wrap (x*p)=x*p:=by
 have:=mul_abs (A:=1099511627776) (B:=1000000) oM h.1 h.2
 exact Ev.wrap_i64 oM oM
theorem scale_in (x p:Int) : -1099511627776≤scaleI x p∧scaleI x p≤1099511627776:=by
 unfold scaleI
 split
 ·rename_i h
  have:=mul_abs (A:=1099511627776) (B:=1000000) oM h.1 h.2
  omega
 ·omega
theorem ticks_Floor_pc (a b:Int) (ha : -9223372036854775808≤a∧a≤9223372036854775807):PC Tryz.prog [] 151 [I a,I b] (· = D.t [I (floorI a b),D.v (.bool (floorB b))]):=by
 refine PC.of (N:=19) Tryz.func151 rfl rfl (Nat.le_of_ble_eq_true rfl) ?_
 refine PW.a [0,1] 0 (PW.q [0,1,8] 0 (PW.cd (decide (b<(1:Int))) ?_ ?_)) <;> intro hz0 <;> try simp only [boolS] at hz0
 ·refine PW.t [4,5] 0 (rq (D.t [I 0,D.v (.bool false)]) ?_)
  have hn:decide (1≤b)=false:=by simp; omega
  rw [floorI,if_pos oM,floorB,hn]
 ·refine PW.k (PW.w 2 [0,1,9,10] 0 (PL.div (k := .i64) (A:=[]) a b (IntKind.i64.wrap (a.tdiv b)) rfl (by first|exact .inl ⟨rfl,rfl⟩|exact .inr ⟨rfl,rfl⟩) kR kR kR kR kR (fun _=>by omega) (PL.n 1 [0,1,6] 0 (PW.seq (PW.w 2 [6,12,13] 0 (PL.div (k := .i64) (A:=[]) a b (a.tmod b) rfl (by first|exact .inl ⟨rfl,rfl⟩|exact .inr ⟨rfl,rfl⟩) kR kR kR kR kR (fun _=>by omega) (PL.n 1 [6,15] 0 ?_)))))))
  refine PW.cd (decide ((a.tmod b)<(0:Int))) ?_ ?_ <;> intro hz1 <;> try simp only [boolS] at hz1
  ·refine PW.b [6] 0 ?_
   show PW _ _ _ _ _
   refine PW.t [4,5] 0 (rq (D.t [I (IntKind.i64.wrap ((IntKind.i64.wrap (a.tdiv b))-1)),D.v (.bool true)]) ?_)
   have hn:decide (1≤b)=true:=by simp; omega
   rw [floorI,if_neg oM,floorB,hn,floor_down ha oM oM]
  ·refine PW.k (PW.t [4,5] 0 (rq (D.t [I (IntKind.i64.wrap (a.tdiv b)),D.v (.bool true)]) ?_))
   have hn:decide (1≤b)=true:=by simp; omega
   rw [floorI,if_neg oM,floorB,hn,floor_up ha oM oM]
theorem drumlineref1_Floor_pc (a b:Int) (ha : -9223372036854775808≤a∧a≤9223372036854775807):PC Tryz.prog [] 160 [I a,I b] (· = D.t [I (floorI a b),D.v (.bool (floorB b))]):=by
 refine PC.of (N:=19) Tryz.func160 rfl rfl (Nat.le_of_ble_eq_true rfl) ?_
 refine PW.a [0,1] 0 (PW.q [0,1,8] 0 (PW.cd (decide (b<(1:Int))) ?_ ?_)) <;> intro hz0 <;> try simp only [boolS] at hz0
 ·refine PW.t [4,5] 0 (rq (D.t [I 0,D.v (.bool false)]) ?_)
  have hn:decide (1≤b)=false:=by simp; omega
  rw [floorI,if_pos oM,floorB,hn]
 ·refine PW.k (PW.w 2 [0,1,9,10] 0 (PL.div (k := .i64) (A:=[]) a b (IntKind.i64.wrap (a.tdiv b)) rfl (by first|exact .inl ⟨rfl,rfl⟩|exact .inr ⟨rfl,rfl⟩) kR kR kR kR kR (fun _=>by omega) (PL.n 1 [0,1,6] 0 (PW.seq (PW.w 2 [6,12,13] 0 (PL.div (k := .i64) (A:=[]) a b (a.tmod b) rfl (by first|exact .inl ⟨rfl,rfl⟩|exact .inr ⟨rfl,rfl⟩) kR kR kR kR kR (fun _=>by omega) (PL.n 1 [6,15] 0 ?_)))))))
  refine PW.cd (decide ((a.tmod b)<(0:Int))) ?_ ?_ <;> intro hz1 <;> try simp only [boolS] at hz1
  ·refine PW.b [6] 0 ?_
   show PW _ _ _ _ _
   refine PW.t [4,5] 0 (rq (D.t [I (IntKind.i64.wrap ((IntKind.i64.wrap (a.tdiv b))-1)),D.v (.bool true)]) ?_)
   have hn:decide (1≤b)=true:=by simp; omega
   rw [floorI,if_neg oM,floorB,hn,floor_down ha oM oM]
  ·refine PW.k (PW.t [4,5] 0 (rq (D.t [I (IntKind.i64.wrap (a.tdiv b)),D.v (.bool true)]) ?_))
   have hn:decide (1≤b)=true:=by simp; omega
   rw [floorI,if_neg oM,floorB,hn,floor_up ha oM oM]
theorem drumlineref1_Time_pc (x:Int):PC Tryz.prog [] 70 [I x] (· = D.v (.bool (timeB x))):=by
 refine PC.of (N:=9) Tryz.func70 rfl rfl (Nat.le_of_ble_eq_true rfl) ?_
 refine PW.a [0] 0 (PW.t [2] 0 (rq (D.v (.bool ((decide (x≥((-1099511627776):Int)))&&(decide (x≤(1099511627776:Int)))))) ?_))
 rfl
theorem ticks_Scale_pc (x p:Int):PC Tryz.prog [] 116 [I x,I p] (· = D.t [I (scaleI x p),D.v (.bool (scaleB x p))]):=by
 refine PC.of (N:=26) Tryz.func116 rfl rfl (Nat.le_of_ble_eq_true rfl) ?_
 refine PW.a [0,1] 0 (PW.q [0,1,19] 0 (PW.cd ((((decide (x<((-1099511627776):Int)))||(decide (x>(1099511627776:Int))))||(decide (p<((-1000000):Int))))||(decide (p>(1000000:Int)))) ?_ ?_)) <;> intro hz0 <;> try simp only [boolS,timeB] at hz0
 ·have hS:¬ inS x p:=by unfold inS; omega
  refine PW.t [4,5] 0 (rq (D.t [I 0,D.v (.bool false)]) ?_)
  have hn:scaleB x p=false:=by unfold scaleB; simp [hS]
  rw [scaleI,if_neg hS,hn]
 ·have hS:inS x p:=by unfold inS; omega
  refine PW.k (PW.w 3 [22] 0 (PL.gc (A:=[]) (fun _=>(show PC Tryz.prog [] 151 [I (IntKind.i64.wrap (x*p)),I 1000000] (· = D.t [I (x*p/1000000),D.v (.bool true)]) from by rw [scale_mul hS]; exact ticks_Floor_pc (x*p) 1000000 (by have:=mul_abs (A:=1099511627776) (B:=1000000) oM hS.1 hS.2; omega))) (PL.n 4 [4,5] 0 (PW.ret (rq (D.t [I (x*p/1000000),D.v (.bool true)]) ?_)))))
  have hn:scaleB x p=true:=by unfold scaleB; simp [hS]
  rw [scaleI,if_pos hS,hn]
theorem drumlineref1_Scale_pc (x p:Int):PC Tryz.prog [] 126 [I x,I p] (· = D.t [I (scaleI x p),D.v (.bool (scaleB x p))]):=by
 refine PC.of (N:=23) Tryz.func126 rfl rfl (Nat.le_of_ble_eq_true rfl) ?_
 refine PW.a [0,1] 0 (PW.seq (PW.w 1 [0,1,6] 0 (PL.gc (A:=[]) (fun _=>drumlineref1_Time_pc x) (PL.n 9 [0,1,16] 0 (PW.cd (((!(timeB x))||(decide (p<((-1000000):Int))))||(decide (p>(1000000:Int)))) ?_ ?_))))) <;> intro hz0 <;> try simp only [boolS,timeB] at hz0
 ·have hS:¬ inS x p:=by unfold inS; omega
  refine PW.t [4,5] 0 (rq (D.t [I 0,D.v (.bool false)]) ?_)
  have hn:scaleB x p=false:=by unfold scaleB; simp [hS]
  rw [scaleI,if_neg hS,hn]
 ·have hS:inS x p:=by unfold inS; omega
  refine PW.k (PW.w 3 [19] 0 (PL.gc (A:=[]) (fun _=>(show PC Tryz.prog [] 160 [I (IntKind.i64.wrap (x*p)),I 1000000] (· = D.t [I (x*p/1000000),D.v (.bool true)]) from by rw [scale_mul hS]; exact drumlineref1_Floor_pc (x*p) 1000000 (by have:=mul_abs (A:=1099511627776) (B:=1000000) oM hS.1 hS.2; omega))) (PL.n 4 [4,5] 0 (PW.ret (rq (D.t [I (x*p/1000000),D.v (.bool true)]) ?_)))))
  have hn:scaleB x p=true:=by unfold scaleB; simp [hS]
  rw [scaleI,if_pos hS,hn]
def realI (x p:Int):Int:=IntKind.i64.wrap (x-scaleI x p)
theorem timeB_iff {x:Int}:timeB x=true ↔ -1099511627776≤x∧x≤1099511627776:=by simp [timeB]
theorem timeB_not {x:Int}:timeB x=false↔¬ (-1099511627776≤x∧x≤1099511627776):=by rw [← timeB_iff]; simp
theorem clock_Real_pc (x p:Int):PC Tryz.prog [] 90 [I x,I p] (· = I (realI x p)):=by
 refine PC.of (N:=16) Tryz.func90 rfl rfl (Nat.le_of_ble_eq_true rfl) ?_
 refine PW.a [0,1] 0 (PW.w 2 [0,8,9] 0 (PL.gc (A:=[]) (fun _=>ticks_Scale_pc x p) (PL.n 5 [0,5] 0 (PW.t [4] 0 (rq (I (IntKind.i64.wrap (x-(scaleI x p)))) ?_)))))
 rfl
theorem drumlineref5_Real_pc (x p:Int):PC Tryz.prog [] 94 [I x,I p] (· = I (realI x p)):=by
 refine PC.of (N:=16) Tryz.func94 rfl rfl (Nat.le_of_ble_eq_true rfl) ?_
 refine PW.a [0,1] 0 (PW.w 2 [0,8,9] 0 (PL.gc (A:=[]) (fun _=>drumlineref1_Scale_pc x p) (PL.n 5 [0,5] 0 (PW.t [4] 0 (rq (I (IntKind.i64.wrap (x-(scaleI x p)))) ?_)))))
 rfl
def lateB (x:Guard) (at_ arr:Int):Bool:=x.on&&timeB x.start&&timeB at_&&timeB arr
def lateI (x:Guard) (at_ p arr:Int):Int:=if lateB x at_ arr=true then IntKind.i64.wrap (IntKind.i64.wrap (arr-x.start)-realI at_ p) else 0
def passB (x:Guard) (at_ p w arr:Int):Bool := !x.on||(lateB x at_ arr&&decide (-w≤lateI x at_ p arr)&&decide (lateI x at_ p arr≤w))
theorem real_in (x p:Int) (hx : -1099511627776≤x∧x≤1099511627776) : -2199023255552≤realI x p∧realI x p≤2199023255552:=by
 have:=scale_in x p
 rw [realI,Ev.wrap_i64 oM oM]
 omega
theorem lateB_iff {x:Guard} {at_ arr:Int}:lateB x at_ arr=true↔x.on=true∧(-1099511627776≤x.start∧x.start≤1099511627776)∧(-1099511627776≤at_∧at_≤1099511627776)∧(-1099511627776≤arr∧arr≤1099511627776):=by
 simp only [lateB,Bool.and_eq_true,timeB_iff,and_assoc]
theorem late_is {x:Guard} {at_ arr:Int} (p:Int) (h:lateB x at_ arr=true):lateI x at_ p arr=arr-x.start-realI at_ p ∧ -8796093022208≤lateI x at_ p arr∧lateI x at_ p arr≤8796093022208:=by
 have hb:=lateB_iff.1 h
 have hr:=real_in at_ p hb.2.2.1
 rw [lateI,if_pos h,Ev.wrap_i64 (x:=arr-x.start) oM oM,Ev.wrap_i64 oM oM]
 omega
theorem late_no {x:Guard} {at_ arr:Int} (h:¬ (x.on=true∧(-1099511627776≤x.start∧x.start≤1099511627776)∧(-1099511627776≤at_∧at_≤1099511627776)∧(-1099511627776≤arr∧arr≤1099511627776))):lateB x at_ arr=false:=by
 rw [← lateB_iff] at h
 simpa using h
theorem pass_code {x:Guard} {at_ p w arr:Int} (hw:Is64 w) (ho:x.on=true):((lateB x at_ arr&&decide (lateI x at_ p arr≥IntKind.i64.wrap (0-w)))&&decide (lateI x at_ p arr≤w))=passB x at_ p w arr:=by
 unfold Is64 at hw
 rw [passB,ho]
 by_cases h:lateB x at_ arr=true
 ·have hi:=(late_is p h).2
  rw [h]
  by_cases hm:w = -9223372036854775808
  ·subst hm
   rw [show IntKind.i64.wrap (0 - -9223372036854775808) = -9223372036854775808 by kernel_rfl]
   simp only [Bool.not_true,Bool.false_or,Bool.true_and]
   rw [decide_eq_false (p:=lateI x at_ p arr ≤ -9223372036854775808) oM]
   simp
  ·rw [Ev.wrap_i64 oM oM,Int.zero_sub]
   simp
 ·rw [Bool.not_eq_true] at h
  rw [h]
  simp
theorem pass_doc {x:Guard} {at_ p w arr:Int} (hw:Is64 w) (ho:x.on=true):(((lateB x at_ arr&&decide (w≥(0:Int)))&&decide (lateI x at_ p arr≤w))&&decide (lateI x at_ p arr≥IntKind.i64.wrap (0-w)))=passB x at_ p w arr:=by
 rw [← pass_code hw ho]
 unfold Is64 at hw
 by_cases h:lateB x at_ arr=true
 ·have hi:=(late_is p h).2
  rw [h]
  by_cases h0:0≤w
  ·rw [decide_eq_true (show w≥0 from h0)]
   simp [Bool.and_comm]
  ·rw [decide_eq_false (show ¬ w≥0 from h0)]
   by_cases hm:w = -9223372036854775808
   ·subst hm
    rw [decide_eq_false (p:=lateI x at_ p arr ≤ -9223372036854775808) oM]
    simp
   ·rw [Ev.wrap_i64 oM oM]
    simp
    omega
 ·rw [Bool.not_eq_true] at h
  rw [h]
  simp
theorem guard_isTime_pc (x:Int):PC Tryz.prog [] 89 [I x] (· = D.v (.bool (timeB x))):=by
 refine PC.of (N:=9) Tryz.func89 rfl rfl (Nat.le_of_ble_eq_true rfl) ?_
 refine PW.a [0] 0 (PW.t [2] 0 (rq (D.v (.bool ((decide (x≥((-1099511627776):Int)))&&(decide (x≤(1099511627776:Int)))))) ?_))
 rfl
theorem guard_Late_pc (x:Guard) (a p t:Int):PC Tryz.prog [] 60 [D.r (Guard.d x),I a,I p,I t] (· = D.t [I (lateI x a p t),D.v (.bool (lateB x a t))]):=by
 refine PC.of (N:=37) Tryz.func60 rfl rfl (Nat.le_of_ble_eq_true rfl) ?_
 refine PW.a [1,2,3,4] 1 (PW.seq (PW.w 6 [1,2,3,4,13,15] 1 (PL.gc (A:=[(13,false)]) (fun _=>guard_isTime_pc x.start) (PL.a 4 [1,2,3,4,19,20] 1 (PL.gc (A:=[(19,false)]) (fun _=>guard_isTime_pc a) (PL.a 4 [1,2,3,4,24,25] 1 (PL.gc (A:=[(24,false)]) (fun _=>guard_isTime_pc t) ?_)))))))
 refine PL.n 2 [1,2,3,4,28] 1 (PW.cd ((((!x.on)||(!(timeB x.start)))||(!(timeB a)))||(!(timeB t))) ?_ ?_) <;> intro hz0 <;> try simp only [boolS,timeB_iff,timeB_not] at hz0
 ·refine PW.t [8,9] 1 (rq (D.t [I 0,D.v (.bool false)]) ?_)
  have hn:=late_no (x:=x) (at_:=a) (arr:=t) (by intro h; rw [h.1] at hz0; simp only [Bool.true_eq_false,Bool.false_eq_true,false_or] at hz0; omega)
  rw [lateI,hn,if_neg (by simp)]
 ·refine PW.k (PW.seq (PW.open [] kR ?_))
  refine PO.a [0,1,2,3,4,5] 10 [32,33,34] 4 (PO.one (n:=3) 6 kR ?_)
  refine PO1.gc _ (A:=[]) (fun _=>clock_Real_pc a p) ?_ rfl
  refine PO.a [7,8,9] 3 [8,9] 0 (PO.done kR ?_)
  show PW _ _ _ _ _
  refine PW.ret (rq (D.t [I (IntKind.i64.wrap ((IntKind.i64.wrap (t-x.start))-(realI a p))),D.v (.bool true)]) ?_)
  have hy:=lateB_iff.2 (show x.on=true∧(-1099511627776≤x.start∧x.start≤1099511627776)∧(-1099511627776≤a∧a≤1099511627776)∧(-1099511627776≤t∧t≤1099511627776) from ⟨hz0.1.1.1,hz0.1.1.2,hz0.1.2,hz0.2⟩)
  rw [lateI,hy,if_pos rfl]
theorem drumlineref10_Late_pc (x:Guard) (a p t:Int):PC Tryz.prog [] 63 [D.r (Guard.d x),I a,I p,I t] (· = D.t [I (lateI x a p t),D.v (.bool (lateB x a t))]):=by
 refine PC.of (N:=37) Tryz.func63 rfl rfl (Nat.le_of_ble_eq_true rfl) ?_
 refine PW.a [1,2,3,4] 1 (PW.seq (PW.w 6 [1,2,3,4,13,15] 1 (PL.gc (A:=[(13,false)]) (fun _=>drumlineref1_Time_pc x.start) (PL.a 4 [1,2,3,4,19,20] 1 (PL.gc (A:=[(19,false)]) (fun _=>drumlineref1_Time_pc a) (PL.a 4 [1,2,3,4,24,25] 1 (PL.gc (A:=[(24,false)]) (fun _=>drumlineref1_Time_pc t) ?_)))))))
 refine PL.n 2 [1,2,3,4,28] 1 (PW.cd ((((!x.on)||(!(timeB x.start)))||(!(timeB a)))||(!(timeB t))) ?_ ?_) <;> intro hz0 <;> try simp only [boolS,timeB_iff,timeB_not] at hz0
 ·refine PW.t [8,9] 1 (rq (D.t [I 0,D.v (.bool false)]) ?_)
  have hn:=late_no (x:=x) (at_:=a) (arr:=t) (by intro h; rw [h.1] at hz0; simp only [Bool.true_eq_false,Bool.false_eq_true,false_or] at hz0; omega)
  rw [lateI,hn,if_neg (by simp)]
 ·refine PW.k (PW.seq (PW.open [] kR ?_))
  refine PO.a [0,1,2,3,4,5] 10 [32,33,34] 4 (PO.one (n:=3) 6 kR ?_)
  refine PO1.gc _ (A:=[]) (fun _=>drumlineref5_Real_pc a p) ?_ rfl
  refine PO.a [7,8,9] 3 [8,9] 0 (PO.done kR ?_)
  show PW _ _ _ _ _
  refine PW.ret (rq (D.t [I (IntKind.i64.wrap ((IntKind.i64.wrap (t-x.start))-(realI a p))),D.v (.bool true)]) ?_)
  have hy:=lateB_iff.2 (show x.on=true∧(-1099511627776≤x.start∧x.start≤1099511627776)∧(-1099511627776≤a∧a≤1099511627776)∧(-1099511627776≤t∧t≤1099511627776) from ⟨hz0.1.1.1,hz0.1.1.2,hz0.1.2,hz0.2⟩)
  rw [lateI,hy,if_pos rfl]
theorem guard_Pass_pc (x:Guard) (a p w t:Int) (hw:Is64 w):PC Tryz.prog [] 31 [D.r (Guard.d x),I a,I p,I w,I t] (· = D.v (.bool (passB x a p w t))):=by
 refine PC.of (N:=36) Tryz.func31 rfl rfl (Nat.le_of_ble_eq_true rfl) ?_
 refine PW.a [1,2,3,4,5] 1 (PW.q [1,2,3,4,5,15] 1 (PW.cd (!x.on) ?_ ?_)) <;> intro hz0 <;> try simp only [boolS] at hz0
 ·refine PW.t [10] 1 (rq (D.v (.bool true)) ?_)
  rw [passB,hz0]
  rfl
 ·refine PW.k (PW.w 4 [3,17,18,19,20] 1 (PL.gc (A:=[]) (fun _=>guard_Late_pc x a p t) (PL.n 5 [3,11,12] 1 (PW.t [10] 1 (rq (D.v (.bool (((lateB x a t)&&(decide ((lateI x a p t)≥(IntKind.i64.wrap (0-w)))))&&(decide ((lateI x a p t)≤w))))) ?_)))))
  rw [← pass_code hw hz0]
theorem drumlineref10_Pass_pc (x:Guard) (a p w t:Int) (hw:Is64 w):PC Tryz.prog [] 33 [D.r (Guard.d x),I a,I p,I w,I t] (· = D.v (.bool (passB x a p w t))):=by
 refine PC.of (N:=40) Tryz.func33 rfl rfl (Nat.le_of_ble_eq_true rfl) ?_
 refine PW.a [1,2,3,4,5] 1 (PW.q [1,2,3,4,5,15] 1 (PW.cd (!x.on) ?_ ?_)) <;> intro hz0 <;> try simp only [boolS] at hz0
 ·refine PW.t [10] 1 (rq (D.v (.bool true)) ?_)
  rw [passB,hz0]
  rfl
 ·refine PW.k (PW.w 4 [3,17,18,19,20] 1 (PL.gc (A:=[]) (fun _=>drumlineref10_Late_pc x a p t) (PL.n 5 [3,11,12] 1 (PW.t [10] 1 (rq (D.v (.bool ((((lateB x a t)&&(decide (w≥(0:Int))))&&(decide ((lateI x a p t)≤w)))&&(decide ((lateI x a p t)≥(IntKind.i64.wrap (0-w))))))) ?_)))))
  rw [← pass_doc hw hz0]
end Go.Proofs.YtdomlccfjnkbjaaGreatDoor.Pl
