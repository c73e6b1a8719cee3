/- The document's own put. -/
import Derived.Test.YtdomlccfjnkbjaaGreatDoorDpTake
import Derived.Test.YtdomlccfjnkbjaaGreatDoorCkOne
import Derived.Test.YtdomlccfjnkbjaaGreatDoorDpCut
import Derived.Test.YtdomlccfjnkbjaaGreatDoorFrAlive
import Derived.Test.YtdomlccfjnkbjaaGreatDoorSmA
import Derived.Test.YtdomlccfjnkbjaaGreatDoorFrQ
import Derived.Test.YtdomlccfjnkbjaaGreatDoorPlTwelve
namespace Go.Proofs.YtdomlccfjnkbjaaGreatDoor.Pl
open Go.ChangeShapes Go.WideShapes Go.ChangeAt Go.RowKit Go.Proofs.YtdomlccfjnkbjaaGreatDoor.Sm Go.Proofs.YtdomlccfjnkbjaaGreatDoor.Dp
set_option maxHeartbeats 1000000
set_option maxRecDepth 100000
set_option linter.unusedVariables false
def Is64 (n:Int):Prop := -9223372036854775808≤n∧n≤9223372036854775807
theorem RepC.seq {w:World} {ok:Nat→Prop} {n z:Nat} {f f':Nat→List D} {v:Value} (h:RepC w ok (.s n z f) v) (hf:∀ i,i<n→f i=f' i):RepC w ok (.s n z f') v:=by
 cases h with
 | s0 z f a c ha hc=>exact .s0 z f' a c ha hc
 | s vals hb hn hc hz hv hd=>exact .s vals hb hn hc (fun i hi=>by rw [← hf i hi]; exact hz i hi) hv fun i j d hi hj=>hd i j d hi (by rw [hf i hi]; exact hj)
theorem Fit.i64 {d:D} (h:Fit (.int .i64) d):∃ n,d=I n∧Is64 n:=by
 cases h with
 | int h=>exact ⟨_,rfl,bounds_i64 h⟩
theorem Fit.list {α : Type} [Inhabited α] {e:List Sh} {enc : α → List D} {Ok : α → Prop} {d:D} (h:Fit (.sl e) d) (hel:∀ ds,Fits e ds→∃ x,ds=enc x∧Ok x):∃ l:List α,(∀ x ∈ l,Ok x)∧l.length≤maxLen∧∀ (w:World) (ok:Nat→Prop) (v:Value),RepC w ok d v→RepC w ok (sl' e.length enc l) v:=by
 cases h with
 | @sl e n f hn hl h =>
  have each:∀ i,i<n→∃ x,f i=enc x∧Ok x:=fun i hi=>hel (f i) ⟨hl i hi,fun j s d h1 h2=>h i j s d hi h1 h2⟩
  obtain ⟨y,hy⟩:=Deep.choose_lt each
  refine ⟨(List.range n).map y,fun x hx => ?_,by simpa using hn,fun w ok v hr => ?_⟩
  ·obtain ⟨i,hi,rfl⟩:=List.mem_map.1 hx
   exact (hy i (List.mem_range.1 hi)).2
  ·unfold sl'
   have hlen:((List.range n).map y).length=n:=by simp
   rw [hlen]
   refine RepC.seq hr fun i hi => ?_
   rw [(hy i hi).1]
   simp [List.getD_eq_getElem?_getD,hi]
theorem Fits.ints {k:Nat} {ds:List D} (h:Fits (List.replicate k (.int .i64)) ds):ds.length=k∧∀ j,j<k→∃ n,ds[j]? = some (I n)∧Is64 n:=by
 have hl:ds.length=k:=by simpa using h.len
 refine ⟨hl,fun j hj => ?_⟩
 obtain ⟨n,h1,h2⟩:=Fit.i64 (h.fit j _ _ (by simp [hj]) (List.getElem?_eq_getElem oM))
 exact ⟨n,by rw [List.getElem?_eq_getElem oM,h1],h2⟩
def Part.ok (p:Part):Prop:=Is64 p.nodes∧Is64 p.faults
def Link.ok (l:Link):Prop:=Is64 l.a∧Is64 l.b∧Is64 l.pa0∧Is64 l.pa1∧Is64 l.pb0∧Is64 l.pb1
structure Config.ok (c:Config):Prop where
 parts:∀ p ∈ c.parts,p.ok
 links:∀ l ∈ c.links,l.ok
 cycle:Is64 c.cycle
 lead:Is64 c.lead
 slot:Is64 c.slot
 window:Is64 c.window
 drift:Is64 c.drift
 rate:Is64 c.rate
 ages:Is64 c.ages
 lost:Is64 c.lost
 listen:Is64 c.listen
 span:Is64 c.span
 room:Is64 c.room
theorem PC.calls {G:List (Nat×List D)} {f:FuncId} {ds:List D} {x:Value} {w:World} {vs:List Value} (h:PC Tryz.prog G f ds (· = D.v x)) (hG:∀ y ∈ G,GlC w (fun g=>g<w.heap.size) y) (hl:vs.length=ds.length) (hr:∀ (j:Nat) (d:D) (v:Value),ds[j]? = some d→vs[j]? = some v→RepC w (fun g=>g<w.heap.size) d v):Calls Tryz.prog f vs.toArray w fun e w'=>e = .returned x∧Below w.heap.size w w':=by
 refine (h (fun g=>g<w.heap.size) w vs (fun _ h=>h) hG hl hr).mono ?_
 rintro e w' ⟨v,d,rfl,rfl,hv,hb⟩
 cases hv
 exact ⟨rfl,hb⟩
set_option maxHeartbeats 4000000
set_option linter.unusedSimpArgs false
structure Guard where
 on:Bool
 start:Int
 ages:List Int
deriving DecidableEq,Inhabited
def Guard.d (g:Guard):List D:=[D.v (.bool g.on),I g.start,sl' 1 (fun x=>[I x]) g.ages]
def Guard.ok (g:Guard):Prop:=Is64 g.start∧(∀ x ∈ g.ages,Is64 x)∧g.ages.length≤maxLen
def GuardV (w:World) (v:Value) (g:Guard):Prop:=RepC w (fun g=>g<w.heap.size) (.r (Guard.d g)) v∧g.ok
def shGuard:List Sh:=[.bool,.int .i64,.sl [.int .i64]]
theorem shGuard_is:shOf Tryz.prog 5 35=some shGuard:=by kernel_rfl
theorem Fit.b {d:D} (h:Fit .bool d):∃ b,d=D.v (.bool b):=by
 cases h with
 | bool b=>exact ⟨b,rfl⟩
theorem int_of (ds:List D) (h:Fits [.int .i64] ds):∃ n:Int,ds=(fun x=>[I x]) n∧Is64 n:=by
 obtain ⟨hl,hg⟩:=Fits.ints (k:=1) h
 match ds,hl with
 | [d0],_ =>
  obtain ⟨n0,e0,w0⟩:=hg 0 (by decide)
  simp only [List.getElem?_cons_zero,Option.some.injEq] at e0
  subst e0
  exact ⟨n0,rfl,w0⟩
theorem guard_of_trod {H:Type} {enc:TypeId×Value→H} {W:World} {r:Reach} {b0:Nat} {v:Value} {d:DataW H} {p:List MemPlace} (hv:Value.okWide Tryz.prog W r b0 35 v) (h:DataW.Trod enc Tryz.prog W 0 (fun _=>true) true 35 v d p):∃ c,GuardV W v c:=by
 obtain ⟨cs,rfl,hsz⟩:=okWide_struct Tryz.underlying35 hv
 obtain ⟨l⟩:=cs
 obtain ⟨fuel,hf⟩:=h
 obtain ⟨ds,hc⟩:=trod_came 5 _ _ fuel _ _ shGuard_is hf
 have hl:=hc.fits.len
 match ds,hl with
 | [d0,d1,d2],_ =>
  obtain ⟨b0,rfl⟩:=Fit.b (hc.fits.fit 0 _ d0 rfl rfl)
  obtain ⟨n1,rfl,w1⟩:=Fit.i64 (hc.fits.fit 1 _ d1 rfl rfl)
  obtain ⟨ls,ha1,ha2,ha3⟩:=Fit.list (enc:=fun x=>[I x]) (Ok:=Is64) (hc.fits.fit 2 _ d2 rfl rfl) int_of
  refine ⟨⟨b0,n1,ls⟩,?_,w1,ha1,ha2⟩
  have hlen:l.length=3:=hc.len
  refine .r hlen fun j d v h1 h2 => ?_
  have h2':(Value.agg l.toArray).cells.toList[j]? = some v:=h2
  match j with
  | 2 =>
   have e:sl' 1 (fun x=>[I x]) ls=d:=Option.some.inj h1
   rw [← e]
   exact ha3 _ _ _ (hc.rep 2 d2 v rfl h2')
  | 0=>exact hc.rep 0 d v h1 h2'
  | 1=>exact hc.rep 1 d v h1 h2'
  | j+3=>exact absurd (show j+3<3 from (List.getElem?_eq_some_iff.1 h1).1) oM
end Go.Proofs.YtdomlccfjnkbjaaGreatDoor.Pl
namespace Go.Proofs.YtdomlccfjnkbjaaGreatDoor.Pl
open Go.RowKit Go.Proofs.YtdomlccfjnkbjaaGreatDoor.Sm Go.Proofs.YtdomlccfjnkbjaaGreatDoor.Dp
set_option maxHeartbeats 4000000
set_option maxRecDepth 100000
set_option linter.unusedVariables false
set_option linter.unusedSimpArgs false
def lateB (x:Guard) (at_ arr:Int):Bool:=x.on&&timeB x.start&&timeB at_&&timeB arr
def lateI (x:Guard) (at_ p arr:Int):Int:=if lateB x at_ arr=true then IntKind.i64.wrap (IntKind.i64.wrap (arr-x.start)-realI at_ p) else 0
def passB (x:Guard) (at_ p w arr:Int):Bool := !x.on||(lateB x at_ arr&&decide (-w≤lateI x at_ p arr)&&decide (lateI x at_ p arr≤w))
theorem real_in (x p:Int) (hx : -1099511627776≤x∧x≤1099511627776) : -2199023255552≤realI x p∧realI x p≤2199023255552:=by
 have:=scale_in x p
 rw [realI,Ev.wrap_i64 oM oM]
 omega
theorem lateB_iff {x:Guard} {at_ arr:Int}:lateB x at_ arr=true↔x.on=true∧(-1099511627776≤x.start∧x.start≤1099511627776)∧(-1099511627776≤at_∧at_≤1099511627776)∧(-1099511627776≤arr∧arr≤1099511627776):=by
 simp only [lateB,Bool.and_eq_true,timeB_iff,and_assoc]
theorem late_is {x:Guard} {at_ arr:Int} (p:Int) (h:lateB x at_ arr=true):lateI x at_ p arr=arr-x.start-realI at_ p ∧ -8796093022208≤lateI x at_ p arr∧lateI x at_ p arr≤8796093022208:=by
 have hb:=lateB_iff.1 h
 have hr:=real_in at_ p hb.2.2.1
 rw [lateI,if_pos h,Ev.wrap_i64 (x:=arr-x.start) oM oM,Ev.wrap_i64 oM oM]
 omega
theorem late_no {x:Guard} {at_ arr:Int} (h:¬ (x.on=true∧(-1099511627776≤x.start∧x.start≤1099511627776)∧(-1099511627776≤at_∧at_≤1099511627776)∧(-1099511627776≤arr∧arr≤1099511627776))):lateB x at_ arr=false:=by
 rw [← lateB_iff] at h
 simpa using h
theorem pass_code {x:Guard} {at_ p w arr:Int} (hw:Is64 w) (ho:x.on=true):((lateB x at_ arr&&decide (lateI x at_ p arr≥IntKind.i64.wrap (0-w)))&&decide (lateI x at_ p arr≤w))=passB x at_ p w arr:=by
 unfold Is64 at hw
 rw [passB,ho]
 by_cases h:lateB x at_ arr=true
 ·have hi:=(late_is p h).2
  rw [h]
  by_cases hm:w = -9223372036854775808
  ·subst hm
   rw [show IntKind.i64.wrap (0 - -9223372036854775808) = -9223372036854775808 by kernel_rfl]
   simp only [Bool.not_true,Bool.false_or,Bool.true_and]
   rw [decide_eq_false (p:=lateI x at_ p arr ≤ -9223372036854775808) oM]
   simp
  ·rw [Ev.wrap_i64 oM oM,Int.zero_sub]
   simp
 ·rw [Bool.not_eq_true] at h
  rw [h]
  simp
theorem pass_doc {x:Guard} {at_ p w arr:Int} (hw:Is64 w) (ho:x.on=true):(((lateB x at_ arr&&decide (w≥(0:Int)))&&decide (lateI x at_ p arr≤w))&&decide (lateI x at_ p arr≥IntKind.i64.wrap (0-w)))=passB x at_ p w arr:=by
 rw [← pass_code hw ho]
 unfold Is64 at hw
 by_cases h:lateB x at_ arr=true
 ·have hi:=(late_is p h).2
  rw [h]
  by_cases h0:0≤w
  ·rw [decide_eq_true (show w≥0 from h0)]
   simp [Bool.and_comm]
  ·rw [decide_eq_false (show ¬ w≥0 from h0)]
   by_cases hm:w = -9223372036854775808
   ·subst hm
    rw [decide_eq_false (p:=lateI x at_ p arr ≤ -9223372036854775808) oM]
    simp
   ·rw [Ev.wrap_i64 oM oM]
    simp
    omega
 ·rw [Bool.not_eq_true] at h
  rw [h]
  simp
theorem guard_isTime_pc (x:Int):PC Tryz.prog [] 89 [I x] (· = D.v (.bool (timeB x))):=by
 refine PC.of (N:=9) Tryz.func89 rfl rfl (Nat.le_of_ble_eq_true rfl) ?_
 refine PW.a [0] 0 (PW.t [2] 0 (retQ_ret (d:=D.v (.bool ((decide (x≥((-1099511627776):Int)))&&(decide (x≤(1099511627776:Int)))))) (ps:=[]) kR trivial ?_))
 rfl
theorem guard_Late_pc (x:Guard) (a p t:Int):PC Tryz.prog [] 60 [D.r (Guard.d x),I a,I p,I t] (· = D.t [I (lateI x a p t),D.v (.bool (lateB x a t))]):=by
 refine PC.of (N:=37) Tryz.func60 rfl rfl (Nat.le_of_ble_eq_true rfl) ?_
 refine PW.a [1,2,3,4] 1 (PW.seq (PW.w 6 [1,2,3,4,13,15] 1 (PL.gc (A:=[(13,false)]) (fun _=>guard_isTime_pc x.start) (PL.a 4 [1,2,3,4,19,20] 1 (PL.gc (A:=[(19,false)]) (fun _=>guard_isTime_pc a) (PL.a 4 [1,2,3,4,24,25] 1 (PL.gc (A:=[(24,false)]) (fun _=>guard_isTime_pc t) ?_)))))))
 refine PL.n 2 [1,2,3,4,28] 1 (PW.cd ((((!x.on)||(!(timeB x.start)))||(!(timeB a)))||(!(timeB t))) (fun hz0 => ?_) (fun hz0 => ?_))
 ·try simp only [boolS,timeB_iff,timeB_not] at hz0
  refine PW.t [8,9] 1 (retQ_ret (d:=D.t [I 0,D.v (.bool false)]) (ps:=[]) kR trivial ?_)
  have hn:=late_no (x:=x) (at_:=a) (arr:=t) (by intro h; rw [h.1] at hz0; simp only [Bool.true_eq_false,Bool.false_eq_true,false_or] at hz0; omega)
  rw [lateI,hn,if_neg (by simp)]
 ·try simp only [boolS,timeB_iff,timeB_not] at hz0
  refine PW.k (PW.seq (PW.open [] kR ?_))
  refine PO.a [0,1,2,3,4,5] 10 [32,33,34] 4 (PO.one (n:=3) 6 kR ?_)
  refine PO1.gc _ (A:=[]) (fun _=>clock_Real_pc a p) ?_ rfl
  refine PO.a [7,8,9] 3 [8,9] 0 (PO.done kR ?_)
  show PW _ _ _ _ _
  refine PW.ret (retQ_ret (d:=D.t [I (IntKind.i64.wrap ((IntKind.i64.wrap (t-x.start))-(realI a p))),D.v (.bool true)]) (ps:=[]) kR trivial ?_)
  have hy:=lateB_iff.2 (show x.on=true∧(-1099511627776≤x.start∧x.start≤1099511627776)∧(-1099511627776≤a∧a≤1099511627776)∧(-1099511627776≤t∧t≤1099511627776) from ⟨hz0.1.1.1,hz0.1.1.2,hz0.1.2,hz0.2⟩)
  rw [lateI,hy,if_pos rfl]
theorem drumlineref10_Late_pc (x:Guard) (a p t:Int):PC Tryz.prog [] 63 [D.r (Guard.d x),I a,I p,I t] (· = D.t [I (lateI x a p t),D.v (.bool (lateB x a t))]):=by
 refine PC.of (N:=37) Tryz.func63 rfl rfl (Nat.le_of_ble_eq_true rfl) ?_
 refine PW.a [1,2,3,4] 1 (PW.seq (PW.w 6 [1,2,3,4,13,15] 1 (PL.gc (A:=[(13,false)]) (fun _=>drumlineref1_Time_pc x.start) (PL.a 4 [1,2,3,4,19,20] 1 (PL.gc (A:=[(19,false)]) (fun _=>drumlineref1_Time_pc a) (PL.a 4 [1,2,3,4,24,25] 1 (PL.gc (A:=[(24,false)]) (fun _=>drumlineref1_Time_pc t) ?_)))))))
 refine PL.n 2 [1,2,3,4,28] 1 (PW.cd ((((!x.on)||(!(timeB x.start)))||(!(timeB a)))||(!(timeB t))) (fun hz0 => ?_) (fun hz0 => ?_))
 ·try simp only [boolS,timeB_iff,timeB_not] at hz0
  refine PW.t [8,9] 1 (retQ_ret (d:=D.t [I 0,D.v (.bool false)]) (ps:=[]) kR trivial ?_)
  have hn:=late_no (x:=x) (at_:=a) (arr:=t) (by intro h; rw [h.1] at hz0; simp only [Bool.true_eq_false,Bool.false_eq_true,false_or] at hz0; omega)
  rw [lateI,hn,if_neg (by simp)]
 ·try simp only [boolS,timeB_iff,timeB_not] at hz0
  refine PW.k (PW.seq (PW.open [] kR ?_))
  refine PO.a [0,1,2,3,4,5] 10 [32,33,34] 4 (PO.one (n:=3) 6 kR ?_)
  refine PO1.gc _ (A:=[]) (fun _=>drumlineref5_Real_pc a p) ?_ rfl
  refine PO.a [7,8,9] 3 [8,9] 0 (PO.done kR ?_)
  show PW _ _ _ _ _
  refine PW.ret (retQ_ret (d:=D.t [I (IntKind.i64.wrap ((IntKind.i64.wrap (t-x.start))-(realI a p))),D.v (.bool true)]) (ps:=[]) kR trivial ?_)
  have hy:=lateB_iff.2 (show x.on=true∧(-1099511627776≤x.start∧x.start≤1099511627776)∧(-1099511627776≤a∧a≤1099511627776)∧(-1099511627776≤t∧t≤1099511627776) from ⟨hz0.1.1.1,hz0.1.1.2,hz0.1.2,hz0.2⟩)
  rw [lateI,hy,if_pos rfl]
theorem guard_Pass_pc (x:Guard) (a p w t:Int) (hw:Is64 w):PC Tryz.prog [] 31 [D.r (Guard.d x),I a,I p,I w,I t] (· = D.v (.bool (passB x a p w t))):=by
 refine PC.of (N:=36) Tryz.func31 rfl rfl (Nat.le_of_ble_eq_true rfl) ?_
 refine PW.a [1,2,3,4,5] 1 (PW.q [1,2,3,4,5,15] 1 (PW.cd (!x.on) (fun hz0 => ?_) (fun hz0 => ?_)))
 ·try simp only [boolS] at hz0
  refine PW.t [10] 1 (retQ_ret (d:=D.v (.bool true)) (ps:=[]) kR trivial ?_)
  rw [passB,hz0]
  rfl
 ·try simp only [boolS] at hz0
  refine PW.k (PW.w 4 [3,17,18,19,20] 1 (PL.gc (A:=[]) (fun _=>guard_Late_pc x a p t) (PL.n 5 [3,11,12] 1 (PW.t [10] 1 (retQ_ret (d:=D.v (.bool (((lateB x a t)&&(decide ((lateI x a p t)≥(IntKind.i64.wrap (0-w)))))&&(decide ((lateI x a p t)≤w))))) (ps:=[]) kR trivial ?_)))))
  rw [← pass_code hw hz0]
theorem drumlineref10_Pass_pc (x:Guard) (a p w t:Int) (hw:Is64 w):PC Tryz.prog [] 33 [D.r (Guard.d x),I a,I p,I w,I t] (· = D.v (.bool (passB x a p w t))):=by
 refine PC.of (N:=40) Tryz.func33 rfl rfl (Nat.le_of_ble_eq_true rfl) ?_
 refine PW.a [1,2,3,4,5] 1 (PW.q [1,2,3,4,5,15] 1 (PW.cd (!x.on) (fun hz0 => ?_) (fun hz0 => ?_)))
 ·try simp only [boolS] at hz0
  refine PW.t [10] 1 (retQ_ret (d:=D.v (.bool true)) (ps:=[]) kR trivial ?_)
  rw [passB,hz0]
  rfl
 ·try simp only [boolS] at hz0
  refine PW.k (PW.w 4 [3,17,18,19,20] 1 (PL.gc (A:=[]) (fun _=>drumlineref10_Late_pc x a p t) (PL.n 5 [3,11,12] 1 (PW.t [10] 1 (retQ_ret (d:=D.v (.bool ((((lateB x a t)&&(decide (w≥(0:Int))))&&(decide ((lateI x a p t)≤w)))&&(decide ((lateI x a p t)≥(IntKind.i64.wrap (0-w))))))) (ps:=[]) kR trivial ?_)))))
  rw [← pass_doc hw hz0]
end Go.Proofs.YtdomlccfjnkbjaaGreatDoor.Pl
namespace Go.Proofs.YtdomlccfjnkbjaaGreatDoor.Fr
open Go.ChangeShapes Go.WideShapes Go.ChangeAt Go.RowKit Go.Proofs.YtdomlccfjnkbjaaGreatDoor.Sm Go.Proofs.YtdomlccfjnkbjaaGreatDoor.Wr
set_option maxHeartbeats 4000000
set_option maxRecDepth 100000
theorem intsEqR_calls (a:Option Addr) (n c:Nat) (a':Option Addr) (n' c':Nat) (l m:List Int) (B B':Nat) (w:World) (hr:RowI w B a n c l) (hr':RowI w B' a' n' c' m) :
  Calls Tryz.prog 65 #[.slice a n c,.slice a' n' c'] w fun e w'=>e = .returned (.bool (decide (l=m)))∧∃ q,w'=w.drewN q:=by
 have hn:=hr.row.small
 have hn':=hr'.row.small
 have HR:=hid hr
 have HR':=hid hr'
 have HN:=hid hr.len
 have HN':=hid hr'.len
 clear hr hr'
 by_cases hl:n=n'
 ·subst hl
  go_enter Tryz.func65,Tryz.ntmps65
  go_wp2
  go_loopw [5] (fun i wr=>∃ k q:Nat,k≤n∧i = .int .i64 k∧Hid (l.take k=m.take k)∧wr=w.drewN q) (fun i _=>n-(intOf i).toNat)
  case atStart=>exact ⟨0,0,by omega,rfl,rfl,rfl⟩
  case round =>
   obtain ⟨k,q,hk,rfl,HT,rfl⟩:=hrel
   by_cases hlt:k<n
   ·obtain ⟨b,off,d,rfl,_,hl1,hc,hd,hd'⟩:=(HR.out.drewN q).at_ hlt
    obtain ⟨b2,off2,d2,rfl,_,hl2,hc2,hd2,hd2'⟩:=(HR'.out.drewN q).at_ hlt
    have HL1:=hid hl1
    have HL2:=hid hl2
    clear hl1 hl2
    have HQ:Hid (∀ j,(w.drewN q).drewN j=w.drewN (q+j)):=fun j=>World.drewN_drewN _ _ _
    generalize w.drewN q=W at *
    by_cases hdd:d=d2
    ·subst hdd
     go_wp2
     go_quiet (fail)
     go_wp2
     go_roundw
     case rel =>
      refine ⟨k+1,_,by omega,by go_num,?_,HQ.out _⟩
      exact (show l.take (k+1)=m.take (k+1) by exact (show l.take (k+1)=m.take (k+1) by rw [List.take_add_one,List.take_add_one,HL1.out,HL2.out,HT.out]))
     case measure=>simp [intOf]; omega
    ·have hne:(d == d2)=false:=by simpa using hdd
     go_wp2
     go_quiet (fail)
     go_wp2
     go_ret
     refine ⟨?_,_,HQ.out _⟩
     have:¬ l=m:=by
      rintro rfl
      have:=HL1.out.symm.trans HL2.out
      injection this with this
      exact hdd this
     rw [decide_eq_false this]; rfl
   ·obtain rfl:k=n:=by omega
    go_wp2
    go_ret
    refine ⟨?_,_,rfl⟩
    have:l=m:=by
     have h:=HT.out
     rwa [List.take_of_length_le (by rw [HN.out]; omega),List.take_of_length_le (by rw [HN'.out]; omega)] at h
    rw [decide_eq_true this]; rfl
 ·have hne:((n:Int) == (n':Int))=false:=by simp; omega
  go_enter Tryz.func65,Tryz.ntmps65
  go_wp2
  go_ret
  refine ⟨?_,0,rfl⟩
  have:¬ l=m:=by
   rintro rfl
   exact hl (HN.out.symm.trans HN'.out)
  rw [decide_eq_false this]; rfl
theorem sameR_calls (v v':Value) (f g:Frame) (B B':Nat) (w:World) (hf:FrV w B v f) (hg:FrV w B' v' g) (hB:B≤w.heap.size) (hB':B'≤w.heap.size) :
  Calls Tryz.prog 35 #[v,v'] w fun e w'=>e = .returned (.bool (decide (f=g)))∧Below w.heap.size w w':=by
 obtain ⟨a,n,c,a',n',c',ev,ra,rb,hw⟩:=hf
 obtain ⟨x,m,d,x',m',d',ev',rx,ry,hw'⟩:=hg
 clear hw hw'
 obtain ⟨a0,a1,a2,a3,a4,a5,a6,a7,a8,a9,a10,a11,a12,a13⟩:=f
 obtain ⟨b0,b1,b2,b3,b4,b5,b6,b7,b8,b9,b10,b11,b12,b13⟩:=g
 have HV:=hid ev
 have HV':=hid ev'
 have HA:=hid ra
 have HB:=hid rb
 have HX:=hid rx
 have HY:=hid ry
 clear ev ev' ra rb rx ry
 obtain ⟨z,hz⟩:∃ z,decide ((⟨a0,a1,a2,a3,a4,a5,a6,a7,a8,a9,a10,a11,a12,a13⟩:Frame)=⟨b0,b1,b2,b3,b4,b5,b6,b7,b8,b9,b10,b11,b12,b13⟩)=z:=⟨_,rfl⟩
 rw [hz]
 have HZ:Hid (z=(a0 == b0&&a1 == b1&&a2 == b2&&a3 == b3&&a4 == b4&&a5 == b5&&a6 == b6&&a7 == b7&&a8 == b8&&decide (a9=b9)&&a10 == b10&&a11 == b11&&a12 == b12&&decide (a13=b13))):=by
  show z=_
  rw [← hz,Bool.eq_iff_iff]
  simp [and_assoc]
 clear hz
 go_enter Tryz.func35,Tryz.ntmps35
 go_step
 go_step
 go_step
 refine wpList_box_any rfl _ _ rfl _ HV.out ?_
 intro p1 W1 n1
 refine wpList_box_any rfl _ _ rfl _ HV'.out ?_
 intro p2 W2 n2
 have hb2:Below w.heap.size w W2:=n1.below.trans (n2.below.mono n1.below.size)
 have o1:Ob W2 p1 _ _:=n1.ob.below n2.below n1.ob.lt
 have o2:Ob W2 p2 _ _:=n2.ob
 have HA:=hid (HA.out.below (hb2.mono hB))
 have HB:=hid (HB.out.below (hb2.mono hB))
 have HX:=hid (HX.out.below (hb2.mono hB'))
 have HY:=hid (HY.out.below (hb2.mono hB'))
 have HB2:=hid hb2
 dsimp only at HA HB HX HY
 have O1:=hid o1
 have O2:=hid o2
 clear o1 o2 n1 n2 hb2 HV HV' hB hB'
 iterate 9 go_step
 refine letter 101 2 3 p1 p2 4 false ⟨rfl,rfl,rfl,rfl⟩ rfl ?_
 intro AA TA cA
 refine first_ .neq TA (by decide) (by decide) fieldAt0 (loads_one Tryz.underlying3 rfl) (x := .int .i64 a0) (y := .int .i64 b0) (O1.out.cell (i:=0) rfl) (O2.out.cell (i:=0) rfl) (z:=a0 != b0) (by simp [go_sem]) ?_
 intro A0 T0 c0
 refine or_link .neq T0 c0 (by decide) (by decide) (by decide) (by decide) rfl fieldAt1 (loads_one Tryz.underlying3 rfl) (x := .int .i64 a1) (y := .int .i64 b1) ((O1.out).cell (i:=1) rfl) ((O2.out).cell (i:=1) rfl) (z:=a1 != b1) (by simp [go_sem]) ?_
 intro A1 T1 c1
 refine or_link .neq T1 c1 (by decide) (by decide) (by decide) (by decide) rfl fieldAt2 (loads_one Tryz.underlying3 rfl) (x := .int .i64 a2) (y := .int .i64 b2) ((O1.out).cell (i:=2) rfl) ((O2.out).cell (i:=2) rfl) (z:=a2 != b2) (by simp [go_sem]) ?_
 intro A2 T2 c2
 refine or_link .neq T2 c2 (by decide) (by decide) (by decide) (by decide) rfl fieldAt3 (loads_one Tryz.underlying3 rfl) (x := .int .i64 a3) (y := .int .i64 b3) ((O1.out).cell (i:=3) rfl) ((O2.out).cell (i:=3) rfl) (z:=a3 != b3) (by simp [go_sem]) ?_
 intro A3 T3 c3
 refine or_link .neq T3 c3 (by decide) (by decide) (by decide) (by decide) rfl fieldAt4 (loads_one Tryz.underlying3 rfl) (x := .int .i64 a4) (y := .int .i64 b4) ((O1.out).cell (i:=4) rfl) ((O2.out).cell (i:=4) rfl) (z:=a4 != b4) (by simp [go_sem]) ?_
 intro A4 T4 c4
 refine or_link .neq T4 c4 (by decide) (by decide) (by decide) (by decide) rfl fieldAt5 (loads_one Tryz.underlying3 rfl) (x := .int .i64 a5) (y := .int .i64 b5) ((O1.out).cell (i:=5) rfl) ((O2.out).cell (i:=5) rfl) (z:=a5 != b5) (by simp [go_sem]) ?_
 intro A5 T5 c5
 refine or_link .neq T5 c5 (by decide) (by decide) (by decide) (by decide) rfl fieldAt6 (loads_one Tryz.underlying4 rfl) (x := .bool a6) (y := .bool b6) ((O1.out).cell (i:=6) rfl) ((O2.out).cell (i:=6) rfl) (z:=a6 != b6) (by cases a6 <;> cases b6 <;> simp [go_sem,Tryz.underlying4]) ?_
 intro A6 T6 c6
 iterate 3 go_step
 refine wp_cond_split (show A6.eval (.tmp 51)=_ from c6) (fun h => ?_) (fun h => ?_)
 ·obtain rfl:z=false:=by
   rw [HZ.out]
   clear HZ
   simp only [Bool.or_eq_true,bne_iff_ne,ne_eq] at h
   rcases h with (((((h|h)|h)|h)|h)|h)|h <;> simp [h]
  have hs:=sl_put_same (a:=A6) (d:=4) (v := .bool false) (by rw [T6.size]; decide)
  go_wp2
  (try simp only [Exit.inBlock,Exit.then])
  refine bodyPost_ret (results_tmp rfl _ _ _) ?_ ?_
  ·exact T6.dfr
  exact ⟨congrArg Ending.returned hs,HB2.out⟩
 iterate 5 go_step
 refine first_ .eql T6 (by decide) (by decide) fieldAt7 (loads_one Tryz.underlying2 rfl) (x := .int .i64 a7) (y := .int .i64 b7) (O1.out.cell (i:=7) rfl) (O2.out.cell (i:=7) rfl) (z:=a7 == b7) (by simp [go_sem]) ?_
 intro A7 T7 c7
 refine and_link .eql T7 c7 (by decide) (by decide) (by decide) (by decide) rfl fieldAt8 (loads_one Tryz.underlying2 rfl) (x := .int .i64 a8) (y := .int .i64 b8) ((O1.out).cell (i:=8) rfl) ((O2.out).cell (i:=8) rfl) (z:=a8 == b8) (by simp [go_sem]) ?_
 intro A8 T8 c8
 refine call_link (R:=fun w'=>∃ q,w'=W2.drewN q) T8 c8 (by decide) (by decide) (by decide) (by decide) rfl fieldAt9 (loads_one Tryz.underlying22 rfl) (O1.out.cell (i:=9) rfl) (O2.out.cell (i:=9) rfl) (fun _ _=>by kernel_rfl) (intsEqR_calls _ _ _ _ _ _ a9 b9 _ _ _ HA.out HX.out) ⟨0,rfl⟩ ?_
 rintro A9 _ ⟨q,rfl⟩ T9 c9
 refine and_link .eql T9 c9 (by decide) (by decide) (by decide) (by decide) rfl fieldAt10 (loads_one Tryz.underlying3 rfl) (x := .int .i64 a10) (y := .int .i64 b10) ((O1.out.drewN q).cell (i:=10) rfl) ((O2.out.drewN q).cell (i:=10) rfl) (z:=a10 == b10) (by simp [go_sem]) ?_
 intro A10 T10 c10
 refine and_link .eql T10 c10 (by decide) (by decide) (by decide) (by decide) rfl fieldAt11 (loads_one Tryz.underlying3 rfl) (x := .int .i64 a11) (y := .int .i64 b11) ((O1.out.drewN q).cell (i:=11) rfl) ((O2.out.drewN q).cell (i:=11) rfl) (z:=a11 == b11) (by simp [go_sem]) ?_
 intro A11 T11 c11
 refine and_link .eql T11 c11 (by decide) (by decide) (by decide) (by decide) rfl fieldAt12 (loads_one Tryz.underlying2 rfl) (x := .int .i64 a12) (y := .int .i64 b12) ((O1.out.drewN q).cell (i:=12) rfl) ((O2.out.drewN q).cell (i:=12) rfl) (z:=a12 == b12) (by simp [go_sem]) ?_
 intro A12 T12 c12
 have hv1:=conv_str (P:=Tryz.prog) (HB.out.drewN q) Tryz.underlying23 Tryz.underlying5 Tryz.underlying9
 have hv2:=conv_str (P:=Tryz.prog) (HY.out.drewN q) Tryz.underlying23 Tryz.underlying5 Tryz.underlying9
 have hq:=str_eq a13 b13
 refine str_link T12 c12 (by decide) (by decide) (by decide) (by decide) rfl fieldAt13 (loads_one Tryz.underlying23 rfl) ((O1.out.drewN q).cell (i:=13) rfl) ((O2.out.drewN q).cell (i:=13) rfl) hv1 hv2 (z:=decide (a13=b13)) (by simp [go_sem,hq]) ?_
 intro A13 T13 c13
 refine wpList_go (wanted_none rfl _) (show _=Result.ok (Next.value (sl A13 100)) _ from rfl) ?_
 have hz':z=(a7 == b7&&a8 == b8&&decide (a9=b9)&&a10 == b10&&a11 == b11&&a12 == b12&&decide (a13=b13)):=by
  rw [HZ.out]
  simp only [Bool.or_eq_false_iff,bne_eq_false_iff_eq] at h
  obtain ⟨⟨⟨⟨⟨⟨rfl,rfl⟩,rfl⟩,rfl⟩,rfl⟩,rfl⟩,rfl⟩:=h
  simp
 rw [c13,← hz']
 clear hz' h HZ
 have hs:=sl_put_same (a:=A13) (d:=4) (v := .bool z) (by rw [T13.size]; decide)
 go_wp2
 (try simp only [Exit.inBlock,Exit.then])
 refine bodyPost_ret (results_tmp rfl _ _ _) ?_ ?_
 ·exact T13.dfr
 exact ⟨congrArg Ending.returned hs,Sm.below_drewN HB2.out _⟩
end Go.Proofs.YtdomlccfjnkbjaaGreatDoor.Fr
namespace Go.Proofs.YtdomlccfjnkbjaaGreatDoor.Fr
open Go.ChangeShapes Go.WideShapes Go.ChangeAt Go.RowKit Go.Proofs.YtdomlccfjnkbjaaGreatDoor.Sm Go.Proofs.YtdomlccfjnkbjaaGreatDoor.Wr Go.Proofs.YtdomlccfjnkbjaaGreatDoor.Dp
set_option maxHeartbeats 4000000
set_option maxRecDepth 100000
set_option linter.unusedVariables false
set_option linter.unusedSimpArgs false
def WfA (f:Frame):Prop:=Wf f∧∀ d ∈ f.ages, -9223372036854775808≤d∧d≤9223372036854775807
theorem sameR_pc (f g:Frame) (hf:WfA f) (hg:WfA g):PC Tryz.prog [] 35 [D.r (frD f),D.r (frD g)] (· = D.v (.bool (decide (f=g)))):=by
 intro κ w vs hκ _ hl hd
 match vs,hl with
 | [u,v],_ =>
  obtain ⟨cs,rfl,h1⟩:=frv_of hf (w':=w) hκ (hd 0 _ _ rfl rfl)
  obtain ⟨cs',rfl,h2⟩:=frv_of hg (w':=w) hκ (hd 1 _ _ rfl rfl)
  refine (sameR_calls _ _ f g _ _ w h1 h2 (Nat.le_refl _) (Nat.le_refl _)).mono ?_
  rintro e w' ⟨rfl,hb⟩
  exact ⟨_,_,rfl,rfl,.v _,hb⟩
theorem wfA_spare {f:Frame} (h:WfA f):WfA (spare f):=by
 obtain ⟨⟨h1,h2,h3,h4,h5,h6,h7,h8,h9,h10,h11⟩,ha⟩:=h
 have z:Is64 0:=⟨by decide,by decide⟩
 unfold spare
 repeat' split
 all_goals refine ⟨⟨?_,?_,?_,?_,?_,?_,?_,?_,?_,?_,?_⟩,?_⟩ <;> first|assumption|exact z|exact fun d hd=>absurd hd List.not_mem_nil
end Go.Proofs.YtdomlccfjnkbjaaGreatDoor.Fr
namespace Go.Proofs.YtdomlccfjnkbjaaGreatDoor.Pl
open Go.RowKit Go.Proofs.YtdomlccfjnkbjaaGreatDoor.Sm Go.Proofs.YtdomlccfjnkbjaaGreatDoor.Dp
open Go.Proofs.YtdomlccfjnkbjaaGreatDoor.Fr (bare frD frC WfA)
set_option maxHeartbeats 4000000
set_option maxRecDepth 100000
set_option linter.unusedVariables false
set_option linter.unusedSimpArgs false
theorem plainR_pc (n k:Int):PC Tryz.prog [] 71 [I n,I k] (· = D.t [bytesD (Wr.plainL n k),.v (.bool (Wr.plainB n k))]):=by
 intro κ w vs hκ _ hl hd
 match vs,hl with
 | [u,v],_ =>
  have h1:=hd 0 _ _ rfl rfl
  have h2:=hd 1 _ _ rfl rfl
  cases h1
  cases h2
  refine (Wr.plainR_calls n k w).mono ?_
  rintro e w' ⟨v,rfl,hm⟩
  refine ⟨_,_,rfl,rfl,?_,hm.2⟩
  have hr:=made_rep hm
  refine .t rfl fun j d v e1 e2 => ?_
  match j,e1,e2 with
  | 0,e1,e2 =>
   cases e1
   cases e2
   exact hr.mono fun g hg=>⟨⟨.inr hg.1,hg.2⟩,rfl⟩
  | 1,e1,e2 =>
   cases e1
   cases e2
   exact .v _
  | j+2,e1,e2=>exact absurd e1 (by simp)
theorem put_row (l p:List UInt8):Obj.row 5 1 (l.length+p.length) (fun j=>if j<l.length then (fun j=>u8d (l.getD j default)) j else (fun i=>u8d (p.getD i default)) (j-l.length))=Obj.row 5 1 (l++p).length (fun j=>u8d ((l++p).getD j default)):=by
 rw [List.length_append]
 refine congrArg _ (funext fun j => ?_)
 by_cases h:j<l.length
 ·dsimp only
  rw [if_pos h,List.getD_eq_getElem?_getD,List.getD_eq_getElem?_getD,List.getElem?_append_left h]
 ·dsimp only
  rw [if_neg h,List.getD_eq_getElem?_getD,List.getD_eq_getElem?_getD,List.getElem?_append_right (Nat.le_of_not_lt h)]
theorem putR_pk (l:List UInt8) (n k:Int) (hl:l.length≤1000000) (hk:k≤7):PK Tryz.prog [] 41 [D.h 0 l.length,I n,I k] [Obj.row 5 1 l.length (fun j=>u8d (l.getD j default))] 0 (fun d m=>∃ n' ob',d = .h 0 n'∧m=[ob']∧ob'.shutB=true∧(∃ L:List UInt8,L=l++Wr.plainL n k∧L.length≤l.length+7∧n'=L.length∧ob'=Obj.row 5 1 L.length (fun j=>u8d (L.getD j default)))):=by
 refine PK.of (N:=18) Tryz.func41 rfl rfl (Nat.le_of_ble_eq_true rfl) 0 ?_
 have hp9:=Fr.plainL_le n k hk
 refine PW.a [0,1,2] 1 (PW.w 2 [0,10,11] 1 (PL.gc (A:=[]) (fun _=>plainR_pc n k) (PL.n 5 [0,7] 1 (PW.sr [6] 1 (p:=((l.length=l.length∧True)∧(l.length+(Wr.plainL n k).length)*1≤140737488355328∧l.length+(Wr.plainL n k).length≤9223372036854775807)) nD (PW.ret (retI_r (d:=D.h 0 (l.length+(Wr.plainL n k).length)) (ps:=[]) (mem:=[Obj.row 5 1 (l.length+(Wr.plainL n k).length) (fun j=>if j<l.length then (fun j=>u8d (l.getD j default)) j else (fun i=>u8d ((Wr.plainL n k).getD i default)) (j-l.length))]) trivial ?_))))))
 exact ⟨_,_,rfl,rfl,rfl,_,rfl,by rw [List.length_append]; omega,(List.length_append).symm,put_row _ _⟩
theorem putR_px (l:List UInt8) (n k:Int) (hl:l.length≤1000000) (hk:k≤7):PX Tryz.prog [] 41 [D.h 0 l.length,I n,I k] (Obj.row 5 1 l.length (fun j=>u8d (l.getD j default))) (fun n' ob'=>∃ L:List UInt8,L=l++Wr.plainL n k∧L.length≤l.length+7∧n'=L.length∧ob'=Obj.row 5 1 L.length (fun j=>u8d (L.getD j default))):=PX.of (putR_pk l n k hl hk)
end Go.Proofs.YtdomlccfjnkbjaaGreatDoor.Pl
