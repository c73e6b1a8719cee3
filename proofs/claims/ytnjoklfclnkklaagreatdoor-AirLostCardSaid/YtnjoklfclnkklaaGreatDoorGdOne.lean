/- Chapter 10: package guard and the document's own Late and Pass. -/
import Derived.Test.YtnjoklfclnkklaaGreatDoorPlReach
import Derived.Test.YtnjoklfclnkklaaGreatDoorPlS
import Derived.Test.YtnjoklfclnkklaaGreatDoorDpC
import Derived.Test.YtnjoklfclnkklaaGreatDoorPlDef
import Derived.Test.YtnjoklfclnkklaaGreatDoorFrQ
namespace Go.Proofs.YtnjoklfclnkklaaGreatDoor.Pl
open Go.RowKit Go.Proofs.YtnjoklfclnkklaaGreatDoor.Sm Go.Proofs.YtnjoklfclnkklaaGreatDoor.Dp
set_option maxHeartbeats 4000000
set_option maxRecDepth 100000
set_option linter.unusedVariables false
set_option linter.unusedSimpArgs false
def goodB (c:Config) (part:Int):Bool:=((checkR c).1 == (0:Int))&&isB part c.parts.length
theorem drumlineref5_Good_pc (c:Config) (part:Int) (hp0:c.parts.length<1000000) (hl0:c.links.length<1000000):PC Tryz.prog [] 57 [D.r (Config.d c),I part] (· = D.v (.bool (goodB c part))):=by
 refine PC.of (N:=21) Tryz.func57 rfl rfl (Nat.le_of_ble_eq_true rfl) ?_
 refine PW.sr [1,2] 1 trivial ?_
 refine PW.sg ?_
 refine PL.rw 1 [1,2,8] 1 trivial ?_
 refine PL.gc (A:=[]) (fun _=>drumlineref5_Check_pc c hp0 hl0) ?_
 refine PL.rw 5 [1,2,5] 1 trivial ?_
 refine PL.nl ?_
 refine PW.sg ?_
 refine PL.rw 7 [14,15,18] 1 trivial ?_
 refine PL.gc (A:=[(14,true)]) (fun _=>drumlineref5_is_pc part (c.parts.length:Int)) ?_
 refine PL.rw 2 [4] 1 trivial ?_
 refine PL.nl ?_
 refine PW.ret ?_
 refine retQ_ret (d:=D.v (.bool ((((checkR c).1) == (0:Int))&&(isB part (c.parts.length:Int))))) (ps:=[]) kR trivial ?_
 rfl
def portQ (c:Config) (part node:Int):Option Port:=if (checkP c).1=0∧isB part c.parts.length=true then portP c.links part node c.links.length else none
theorem mem_portsOf (c:Config) (part:Int) (p:Port):p ∈ portsOf c part↔portQ c part p.node=some p:=by
 unfold portQ
 by_cases hc:(checkP c).1=0
 ·rw [← (portsOf_perm hc part).mem_iff]
  have hr:=raw_in (good_of hc) (part:=part) c.links.length (Nat.le_refl _)
  by_cases hb:isB part c.parts.length=true
  ·rw [if_pos ⟨hc,hb⟩]
   constructor
   ·intro hm
    cases hx:portP c.links part p.node c.links.length with
    | none=>exact absurd rfl (portP_none hx p hm)
    | some q =>
     have:=portP_mem hx
     rw [inj_of hr.2 q this.1 p hm this.2]
   ·exact fun h=>(portP_mem h).1
  ·rw [if_neg (fun h=>hb h.2)]
   constructor
   ·intro hm
    have:=hr.1 p hm
    rw [isB_true] at hb
    exact absurd ⟨this.1,this.2.1⟩ hb
   ·intro h; cases h
 ·rw [if_neg (fun h=>hc h.1)]
  unfold portsOf
  rw [if_neg (fun h=>hc h.1)]
  simp
theorem portAt_form {l:Link} {i:Nat} {part node:Int} {p:Port} (h:portAt l i part node=some p):p.link=(i:Int)∧(p.gate=0∨p.gate=1)∧(p.side=0∨p.side=1):=by
 unfold portAt at h
 grind
theorem portP_form {ls:List Link} {part node:Int}:∀ {n:Nat} {p:Port},portP ls part node n=some p→(∃ i:Nat,i<n∧p.link=(i:Int))∧(p.gate=0∨p.gate=1)∧(p.side=0∨p.side=1)
 | 0,p,h=>by cases h
 | n+1,p,h=>by
  unfold portP at h
  split at h
  ·rename_i q hq
   injection h with h
   subst h
   obtain ⟨⟨i,h1,h2⟩,h3⟩:=portP_form hq
   exact ⟨⟨i,by omega,h2⟩,h3⟩
  ·have:=portAt_form h
   exact ⟨⟨n,by omega,this.1⟩,this.2⟩
def floorI (a b:Int):Int:=if b<1 then 0 else a/b
def floorB (b:Int):Bool:=decide (1≤b)
def timeB (x:Int):Bool:=decide (x ≥ -1099511627776)&&decide (x≤1099511627776)
def inS (x p:Int):Prop:=(-1099511627776≤x∧x≤1099511627776)∧(-1000000≤p∧p≤1000000)
instance (x p:Int):Decidable (inS x p):=inferInstanceAs (Decidable ((-1099511627776≤x∧x≤1099511627776)∧(-1000000≤p∧p≤1000000)))
def scaleI (x p:Int):Int:=if inS x p then x*p/1000000 else 0
def scaleB (x p:Int):Bool:=decide (inS x p)
theorem ediv_is {a b q r:Int} (hb:0<b) (h:a=b*q+r) (h0:0≤r) (h1:r<b):a/b=q :=
 ((Int.ediv_emod_unique (a:=a) (b:=b) (q:=q) (r:=r) hb).2 ⟨by omega,h0,h1⟩).1
theorem tdiv_in {a b:Int} (ha : -9223372036854775808≤a∧a≤9223372036854775807) (hb:1≤b) : -9223372036854775808≤a.tdiv b∧a.tdiv b≤9223372036854775807:=by
 have h1:=Int.mul_tdiv_add_tmod a b
 have hb0:(0:Int)<b:=by omega
 by_cases h:0≤a
 ·have h2:=Int.tmod_nonneg b h
  have h3:0≤a.tdiv b:=Int.tdiv_nonneg h oM
  have h4:a.tdiv b*1≤a.tdiv b*b:=Int.mul_le_mul_of_nonneg_left hb h3
  rw [Int.mul_comm] at h1
  omega
 ·have h2:(-a).tdiv b = -(a.tdiv b):=Int.neg_tdiv ..
  have h3:0≤(-a).tdiv b:=Int.tdiv_nonneg oM oM
  have h5:=Int.mul_tdiv_add_tmod (-a) b
  have h6:=Int.tmod_nonneg (a := -a) b oM
  have h4:(-a).tdiv b*1≤(-a).tdiv b*b:=Int.mul_le_mul_of_nonneg_left hb h3
  rw [Int.mul_comm] at h5
  omega
theorem tmod_lo {a b:Int} (hb:1≤b) : -b<a.tmod b:=by
 have h:=Int.tmod_lt_of_pos (-a) (show 0<b by omega)
 rw [Int.neg_tmod] at h
 omega
theorem floor_up {a b:Int} (ha : -9223372036854775808≤a∧a≤9223372036854775807) (hb:1≤b) (hr:0≤a.tmod b):IntKind.i64.wrap (a.tdiv b)=a/b:=by
 have h1:=Int.mul_tdiv_add_tmod a b
 have h2:=Int.tmod_lt_of_pos a (show 0<b by omega)
 have h3:=tdiv_in ha hb
 rw [Ev.wrap_i64 h3.1 h3.2]
 exact (ediv_is oM h1.symm hr h2).symm
theorem floor_down {a b:Int} (ha : -9223372036854775808≤a∧a≤9223372036854775807) (hb:1≤b) (hr:a.tmod b<0):IntKind.i64.wrap (IntKind.i64.wrap (a.tdiv b)-1)=a/b:=by
 have h1:=Int.mul_tdiv_add_tmod a b
 have h2:=tmod_lo (a:=a) hb
 have h3:=tdiv_in ha hb
 have h4:a<0:=by
  apply Int.not_le.1
  intro h0
  have:=Int.tmod_nonneg b h0
  omega
 have h5:2≤b:=by
  apply Int.not_lt.1
  intro hlt
  have:b=1:=by omega
  subst this
  simp at hr
 have h6 : -9223372036854775808<a.tdiv b:=by
  have h7:(-a).tdiv b = -(a.tdiv b):=Int.neg_tdiv ..
  have h8:0≤(-a).tdiv b:=Int.tdiv_nonneg oM oM
  have h9:(-a).tdiv b*2≤(-a).tdiv b*b:=Int.mul_le_mul_of_nonneg_left h5 h8
  have h10:=Int.mul_tdiv_add_tmod (-a) b
  have h11:=Int.tmod_nonneg (a := -a) b oM
  rw [Int.mul_comm] at h10
  omega
 rw [Ev.wrap_i64 h3.1 h3.2,Ev.wrap_i64 oM oM]
 refine (ediv_is (q:=a.tdiv b-1) (r:=a.tmod b+b) oM ?_ oM oM).symm
 rw [Int.mul_sub,Int.mul_one]
 omega
theorem mul_abs {x p A B:Int} (hA:0≤A) (hx : -A≤x∧x≤A) (hp : -B≤p∧p≤B) : -(A*B)≤x*p∧x*p≤A*B:=by
 have hB:0≤B:=by omega
 rcases Int.le_total 0 x with h|h <;> rcases Int.le_total 0 p with h'|h'
 ·have h1:=Int.mul_nonneg h h'
  have h2:x*p≤A*B:=Int.mul_le_mul hx.2 hp.2 h' hA
  have:=Int.mul_nonneg hA hB
  omega
 ·have h1:=Int.mul_nonneg h (show 0 ≤ -p by omega)
  have h2:x * -p≤A*B:=Int.mul_le_mul hx.2 oM oM hA
  rw [Int.mul_neg] at h1 h2
  omega
 ·have h1:=Int.mul_nonneg (show 0 ≤ -x by omega) h'
  have h2 : -x*p≤A*B:=Int.mul_le_mul oM hp.2 h' hA
  rw [Int.neg_mul] at h1 h2
  omega
 ·have h1:=Int.mul_nonneg (show 0 ≤ -x by omega) (show 0 ≤ -p by omega)
  have h2 : -x * -p≤A*B:=Int.mul_le_mul oM oM oM hA
  rw [Int.neg_mul_neg] at h1 h2
  omega
theorem scale_mul {x p:Int} (h:inS x p):IntKind.i64.wrap (x*p)=x*p:=by
 have:=mul_abs (A:=1099511627776) (B:=1000000) oM h.1 h.2
 exact Ev.wrap_i64 oM oM
theorem scale_in (x p:Int) : -1099511627776≤scaleI x p∧scaleI x p≤1099511627776:=by
 unfold scaleI
 split
 ·rename_i h
  have:=mul_abs (A:=1099511627776) (B:=1000000) oM h.1 h.2
  omega
 ·omega
theorem ticks_Floor_pc (a b:Int) (ha : -9223372036854775808≤a∧a≤9223372036854775807):PC Tryz.prog [] 151 [I a,I b] (· = D.t [I (floorI a b),D.v (.bool (floorB b))]):=by
 refine PC.of (N:=19) Tryz.func151 rfl rfl (Nat.le_of_ble_eq_true rfl) ?_
 refine PW.sr [0,1] 0 trivial ?_
 refine PW.seq ?_
 refine PW.sr [0,1,8] 0 trivial ?_
 refine PW.cd (decide (b<(1:Int))) (fun hz0 => ?_) (fun hz0 => ?_)
 ·try simp only [boolS] at hz0
  refine PW.sr [4,5] 0 trivial ?_
  refine PW.ret ?_
  refine retQ_ret (d:=D.t [I 0,D.v (.bool false)]) (ps:=[]) kR trivial ?_
  have hn:decide (1≤b)=false:=by simp; omega
  rw [floorI,if_pos oM,floorB,hn]
 ·try simp only [boolS] at hz0
  refine PW.skip ?_
  show PW _ _ _ _ _
  refine PW.sg ?_
  refine PL.rw 2 [0,1,9,10] 0 trivial ?_
  refine PL.div (k := .i64) (A:=[]) a b (IntKind.i64.wrap (a.tdiv b)) rfl (by first|exact .inl ⟨rfl,rfl⟩|exact .inr ⟨rfl,rfl⟩) kR kR kR kR kR (fun _=>by omega) ?_
  refine PL.rw 1 [0,1,6] 0 trivial ?_
  refine PL.nl ?_
  refine PW.seq ?_
  refine PW.sg ?_
  refine PL.rw 2 [6,12,13] 0 trivial ?_
  refine PL.div (k := .i64) (A:=[]) a b (a.tmod b) rfl (by first|exact .inl ⟨rfl,rfl⟩|exact .inr ⟨rfl,rfl⟩) kR kR kR kR kR (fun _=>by omega) ?_
  refine PL.rw 1 [6,15] 0 trivial ?_
  refine PL.nl ?_
  refine PW.cd (decide ((a.tmod b)<(0:Int))) (fun hz1 => ?_) (fun hz1 => ?_)
  ·try simp only [boolS] at hz1
   refine PW.rr [6] 0 trivial ?_
   show PW _ _ _ _ _
   refine PW.sr [4,5] 0 trivial ?_
   refine PW.ret ?_
   refine retQ_ret (d:=D.t [I (IntKind.i64.wrap ((IntKind.i64.wrap (a.tdiv b))-1)),D.v (.bool true)]) (ps:=[]) kR trivial ?_
   have hn:decide (1≤b)=true:=by simp; omega
   rw [floorI,if_neg oM,floorB,hn,floor_down ha oM oM]
  ·try simp only [boolS] at hz1
   refine PW.skip ?_
   show PW _ _ _ _ _
   refine PW.sr [4,5] 0 trivial ?_
   refine PW.ret ?_
   refine retQ_ret (d:=D.t [I (IntKind.i64.wrap (a.tdiv b)),D.v (.bool true)]) (ps:=[]) kR trivial ?_
   have hn:decide (1≤b)=true:=by simp; omega
   rw [floorI,if_neg oM,floorB,hn,floor_up ha oM oM]
theorem ticks_Scale_pc (x p:Int):PC Tryz.prog [] 116 [I x,I p] (· = D.t [I (scaleI x p),D.v (.bool (scaleB x p))]):=by
 refine PC.of (N:=26) Tryz.func116 rfl rfl (Nat.le_of_ble_eq_true rfl) ?_
 refine PW.sr [0,1] 0 trivial ?_
 refine PW.seq ?_
 refine PW.sr [0,1,19] 0 trivial ?_
 refine PW.cd ((((decide (x<((-1099511627776):Int)))||(decide (x>(1099511627776:Int))))||(decide (p<((-1000000):Int))))||(decide (p>(1000000:Int)))) (fun hz0 => ?_) (fun hz0 => ?_)
 ·try simp only [boolS,timeB] at hz0
  have hS:¬ inS x p:=by unfold inS; omega
  refine PW.sr [4,5] 0 trivial ?_
  refine PW.ret ?_
  refine retQ_ret (d:=D.t [I 0,D.v (.bool false)]) (ps:=[]) kR trivial ?_
  have hn:scaleB x p=false:=by unfold scaleB; simp [hS]
  rw [scaleI,if_neg hS,hn]
 ·try simp only [boolS,timeB] at hz0
  have hS:inS x p:=by unfold inS; omega
  refine PW.skip ?_
  show PW _ _ _ _ _
  refine PW.sg ?_
  refine PL.rw 3 [22] 0 trivial ?_
  refine PL.gc (A:=[]) (fun _=>(show PC Tryz.prog [] 151 [I (IntKind.i64.wrap (x*p)),I 1000000] (· = D.t [I (x*p/1000000),D.v (.bool true)]) from by rw [scale_mul hS]; exact ticks_Floor_pc (x*p) 1000000 (by have:=mul_abs (A:=1099511627776) (B:=1000000) oM hS.1 hS.2; omega))) ?_
  refine PL.rw 4 [4,5] 0 trivial ?_
  refine PL.nl ?_
  refine PW.ret ?_
  refine retQ_ret (d:=D.t [I (x*p/1000000),D.v (.bool true)]) (ps:=[]) kR trivial ?_
  have hn:scaleB x p=true:=by unfold scaleB; simp [hS]
  rw [scaleI,if_pos hS,hn]
def realI (x p:Int):Int:=IntKind.i64.wrap (x-scaleI x p)
theorem timeB_iff {x:Int}:timeB x=true ↔ -1099511627776≤x∧x≤1099511627776:=by simp [timeB]
theorem timeB_not {x:Int}:timeB x=false↔¬ (-1099511627776≤x∧x≤1099511627776):=by rw [← timeB_iff]; simp
theorem clock_Real_pc (x p:Int):PC Tryz.prog [] 90 [I x,I p] (· = I (realI x p)):=by
 refine PC.of (N:=16) Tryz.func90 rfl rfl (Nat.le_of_ble_eq_true rfl) ?_
 refine PW.sr [0,1] 0 trivial ?_
 refine PW.sg ?_
 refine PL.rw 2 [0,8,9] 0 trivial ?_
 refine PL.gc (A:=[]) (fun _=>ticks_Scale_pc x p) ?_
 refine PL.rw 5 [0,5] 0 trivial ?_
 refine PL.nl ?_
 refine PW.sr [4] 0 trivial ?_
 refine PW.ret ?_
 refine retQ_ret (d:=I (IntKind.i64.wrap (x-(scaleI x p)))) (ps:=[]) kR trivial ?_
 rfl
end Go.Proofs.YtnjoklfclnkklaaGreatDoor.Pl
namespace Go.Proofs.YtnjoklfclnkklaaGreatDoor.Pl
open Go.ChangeShapes Go.WideShapes Go.ChangeAt Go.RowKit Go.Proofs.YtnjoklfclnkklaaGreatDoor.Sm Go.Proofs.YtnjoklfclnkklaaGreatDoor.Dp
set_option maxHeartbeats 1000000
set_option maxRecDepth 100000
set_option linter.unusedVariables false
def Is64 (n:Int):Prop := -9223372036854775808≤n∧n≤9223372036854775807
theorem RepC.seq {w:World} {ok:Nat→Prop} {n z:Nat} {f f':Nat→List D} {v:Value} (h:RepC w ok (.s n z f) v) (hf:∀ i,i<n→f i=f' i):RepC w ok (.s n z f') v:=by
 cases h with
 | s0 z f a c ha hc=>exact .s0 z f' a c ha hc
 | s vals hb hn hc hz hv hd=>exact .s vals hb hn hc (fun i hi=>by rw [← hf i hi]; exact hz i hi) hv fun i j d hi hj=>hd i j d hi (by rw [hf i hi]; exact hj)
theorem Fit.i64 {d:D} (h:Fit (.int .i64) d):∃ n,d=I n∧Is64 n:=by
 cases h with
 | int h=>exact ⟨_,rfl,bounds_i64 h⟩
theorem Fit.list {α : Type} [Inhabited α] {e:List Sh} {enc : α → List D} {Ok : α → Prop} {d:D} (h:Fit (.sl e) d) (hel:∀ ds,Fits e ds→∃ x,ds=enc x∧Ok x):∃ l:List α,(∀ x ∈ l,Ok x)∧l.length≤maxLen∧∀ (w:World) (ok:Nat→Prop) (v:Value),RepC w ok d v→RepC w ok (sl' e.length enc l) v:=by
 cases h with
 | @sl e n f hn hl h =>
  have each:∀ i,i<n→∃ x,f i=enc x∧Ok x:=fun i hi=>hel (f i) ⟨hl i hi,fun j s d h1 h2=>h i j s d hi h1 h2⟩
  obtain ⟨y,hy⟩:=Deep.choose_lt each
  refine ⟨(List.range n).map y,fun x hx => ?_,by simpa using hn,fun w ok v hr => ?_⟩
  ·obtain ⟨i,hi,rfl⟩:=List.mem_map.1 hx
   exact (hy i (List.mem_range.1 hi)).2
  ·unfold sl'
   have hlen:((List.range n).map y).length=n:=by simp
   rw [hlen]
   refine RepC.seq hr fun i hi => ?_
   rw [(hy i hi).1]
   simp [List.getD_eq_getElem?_getD,hi]
theorem Fits.ints {k:Nat} {ds:List D} (h:Fits (List.replicate k (.int .i64)) ds):ds.length=k∧∀ j,j<k→∃ n,ds[j]? = some (I n)∧Is64 n:=by
 have hl:ds.length=k:=by simpa using h.len
 refine ⟨hl,fun j hj => ?_⟩
 obtain ⟨n,h1,h2⟩:=Fit.i64 (h.fit j _ _ (by simp [hj]) (List.getElem?_eq_getElem oM))
 exact ⟨n,by rw [List.getElem?_eq_getElem oM,h1],h2⟩
def Part.ok (p:Part):Prop:=Is64 p.nodes∧Is64 p.faults
def Link.ok (l:Link):Prop:=Is64 l.a∧Is64 l.b∧Is64 l.pa0∧Is64 l.pa1∧Is64 l.pb0∧Is64 l.pb1
structure Config.ok (c:Config):Prop where
 parts:∀ p ∈ c.parts,p.ok
 links:∀ l ∈ c.links,l.ok
 cycle:Is64 c.cycle
 lead:Is64 c.lead
 slot:Is64 c.slot
 window:Is64 c.window
 drift:Is64 c.drift
 rate:Is64 c.rate
 ages:Is64 c.ages
 lost:Is64 c.lost
 listen:Is64 c.listen
 span:Is64 c.span
 room:Is64 c.room
theorem PC.calls {G:List (Nat×List D)} {f:FuncId} {ds:List D} {x:Value} {w:World} {vs:List Value} (h:PC Tryz.prog G f ds (· = D.v x)) (hG:∀ y ∈ G,GlC w (fun g=>g<w.heap.size) y) (hl:vs.length=ds.length) (hr:∀ (j:Nat) (d:D) (v:Value),ds[j]? = some d→vs[j]? = some v→RepC w (fun g=>g<w.heap.size) d v):Calls Tryz.prog f vs.toArray w fun e w'=>e = .returned x∧Below w.heap.size w w':=by
 refine (h (fun g=>g<w.heap.size) w vs (fun _ h=>h) hG hl hr).mono ?_
 rintro e w' ⟨v,d,rfl,rfl,hv,hb⟩
 cases hv
 exact ⟨rfl,hb⟩
set_option maxHeartbeats 4000000
set_option linter.unusedSimpArgs false
structure Guard where
 on:Bool
 start:Int
 ages:List Int
deriving DecidableEq,Inhabited
def Guard.d (g:Guard):List D:=[D.v (.bool g.on),I g.start,sl' 1 (fun x=>[I x]) g.ages]
def Guard.ok (g:Guard):Prop:=Is64 g.start∧(∀ x ∈ g.ages,Is64 x)∧g.ages.length≤maxLen
def GuardV (w:World) (v:Value) (g:Guard):Prop:=RepC w (fun g=>g<w.heap.size) (.r (Guard.d g)) v∧g.ok
def shGuard:List Sh:=[.bool,.int .i64,.sl [.int .i64]]
theorem shGuard_is:shOf Tryz.prog 5 35=some shGuard:=by kernel_rfl
theorem Fit.b {d:D} (h:Fit .bool d):∃ b,d=D.v (.bool b):=by
 cases h with
 | bool b=>exact ⟨b,rfl⟩
theorem int_of (ds:List D) (h:Fits [.int .i64] ds):∃ n:Int,ds=(fun x=>[I x]) n∧Is64 n:=by
 obtain ⟨hl,hg⟩:=Fits.ints (k:=1) h
 match ds,hl with
 | [d0],_ =>
  obtain ⟨n0,e0,w0⟩:=hg 0 (by decide)
  simp only [List.getElem?_cons_zero,Option.some.injEq] at e0
  subst e0
  exact ⟨n0,rfl,w0⟩
theorem guard_of_trod {H:Type} {enc:TypeId×Value→H} {W:World} {r:Reach} {b0:Nat} {v:Value} {d:DataW H} {p:List MemPlace} (hv:Value.okWide Tryz.prog W r b0 35 v) (h:DataW.Trod enc Tryz.prog W 0 (fun _=>true) true 35 v d p):∃ c,GuardV W v c:=by
 obtain ⟨cs,rfl,hsz⟩:=okWide_struct Tryz.underlying35 hv
 obtain ⟨l⟩:=cs
 obtain ⟨fuel,hf⟩:=h
 obtain ⟨ds,hc⟩:=trod_came 5 _ _ fuel _ _ shGuard_is hf
 have hl:=hc.fits.len
 match ds,hl with
 | [d0,d1,d2],_ =>
  obtain ⟨b0,rfl⟩:=Fit.b (hc.fits.fit 0 _ d0 rfl rfl)
  obtain ⟨n1,rfl,w1⟩:=Fit.i64 (hc.fits.fit 1 _ d1 rfl rfl)
  obtain ⟨ls,ha1,ha2,ha3⟩:=Fit.list (enc:=fun x=>[I x]) (Ok:=Is64) (hc.fits.fit 2 _ d2 rfl rfl) int_of
  refine ⟨⟨b0,n1,ls⟩,?_,w1,ha1,ha2⟩
  have hlen:l.length=3:=hc.len
  refine .r hlen fun j d v h1 h2 => ?_
  have h2':(Value.agg l.toArray).cells.toList[j]? = some v:=h2
  match j with
  | 2 =>
   have e:sl' 1 (fun x=>[I x]) ls=d:=Option.some.inj h1
   rw [← e]
   exact ha3 _ _ _ (hc.rep 2 d2 v rfl h2')
  | 0=>exact hc.rep 0 d v h1 h2'
  | 1=>exact hc.rep 1 d v h1 h2'
  | j+3=>exact absurd (show j+3<3 from (List.getElem?_eq_some_iff.1 h1).1) oM
end Go.Proofs.YtnjoklfclnkklaaGreatDoor.Pl
namespace Go.Proofs.YtnjoklfclnkklaaGreatDoor.Pl
open Go.RowKit Go.Proofs.YtnjoklfclnkklaaGreatDoor.Sm Go.Proofs.YtnjoklfclnkklaaGreatDoor.Dp
set_option maxHeartbeats 4000000
set_option maxRecDepth 100000
set_option linter.unusedVariables false
set_option linter.unusedSimpArgs false
def lateB (x:Guard) (at_ arr:Int):Bool:=x.on&&timeB x.start&&timeB at_&&timeB arr
def lateI (x:Guard) (at_ p arr:Int):Int:=if lateB x at_ arr=true then IntKind.i64.wrap (IntKind.i64.wrap (arr-x.start)-realI at_ p) else 0
def passB (x:Guard) (at_ p w arr:Int):Bool := !x.on||(lateB x at_ arr&&decide (-w≤lateI x at_ p arr)&&decide (lateI x at_ p arr≤w))
theorem real_in (x p:Int) (hx : -1099511627776≤x∧x≤1099511627776) : -2199023255552≤realI x p∧realI x p≤2199023255552:=by
 have:=scale_in x p
 rw [realI,Ev.wrap_i64 oM oM]
 omega
theorem lateB_iff {x:Guard} {at_ arr:Int}:lateB x at_ arr=true↔x.on=true∧(-1099511627776≤x.start∧x.start≤1099511627776)∧(-1099511627776≤at_∧at_≤1099511627776)∧(-1099511627776≤arr∧arr≤1099511627776):=by
 simp only [lateB,Bool.and_eq_true,timeB_iff,and_assoc]
theorem late_is {x:Guard} {at_ arr:Int} (p:Int) (h:lateB x at_ arr=true):lateI x at_ p arr=arr-x.start-realI at_ p ∧ -8796093022208≤lateI x at_ p arr∧lateI x at_ p arr≤8796093022208:=by
 have hb:=lateB_iff.1 h
 have hr:=real_in at_ p hb.2.2.1
 rw [lateI,if_pos h,Ev.wrap_i64 (x:=arr-x.start) oM oM,Ev.wrap_i64 oM oM]
 omega
theorem late_no {x:Guard} {at_ arr:Int} (h:¬ (x.on=true∧(-1099511627776≤x.start∧x.start≤1099511627776)∧(-1099511627776≤at_∧at_≤1099511627776)∧(-1099511627776≤arr∧arr≤1099511627776))):lateB x at_ arr=false:=by
 rw [← lateB_iff] at h
 simpa using h
theorem pass_code {x:Guard} {at_ p w arr:Int} (hw:Is64 w) (ho:x.on=true):((lateB x at_ arr&&decide (lateI x at_ p arr≥IntKind.i64.wrap (0-w)))&&decide (lateI x at_ p arr≤w))=passB x at_ p w arr:=by
 unfold Is64 at hw
 rw [passB,ho]
 by_cases h:lateB x at_ arr=true
 ·have hi:=(late_is p h).2
  rw [h]
  by_cases hm:w = -9223372036854775808
  ·subst hm
   rw [show IntKind.i64.wrap (0 - -9223372036854775808) = -9223372036854775808 by kernel_rfl]
   simp only [Bool.not_true,Bool.false_or,Bool.true_and]
   rw [decide_eq_false (p:=lateI x at_ p arr ≤ -9223372036854775808) oM]
   simp
  ·rw [Ev.wrap_i64 oM oM,Int.zero_sub]
   simp
 ·rw [Bool.not_eq_true] at h
  rw [h]
  simp
theorem guard_isTime_pc (x:Int):PC Tryz.prog [] 89 [I x] (· = D.v (.bool (timeB x))):=by
 refine PC.of (N:=9) Tryz.func89 rfl rfl (Nat.le_of_ble_eq_true rfl) ?_
 refine PW.sr [0] 0 trivial ?_
 refine PW.sr [2] 0 trivial ?_
 refine PW.ret ?_
 refine retQ_ret (d:=D.v (.bool ((decide (x≥((-1099511627776):Int)))&&(decide (x≤(1099511627776:Int)))))) (ps:=[]) kR trivial ?_
 rfl
theorem guard_Late_pc (x:Guard) (a p t:Int):PC Tryz.prog [] 60 [D.r (Guard.d x),I a,I p,I t] (· = D.t [I (lateI x a p t),D.v (.bool (lateB x a t))]):=by
 refine PC.of (N:=37) Tryz.func60 rfl rfl (Nat.le_of_ble_eq_true rfl) ?_
 refine PW.sr [1,2,3,4] 1 trivial ?_
 refine PW.seq ?_
 refine PW.sg ?_
 refine PL.rw 6 [1,2,3,4,13,15] 1 trivial ?_
 refine PL.gc (A:=[(13,false)]) (fun _=>guard_isTime_pc x.start) ?_
 refine PL.rw 4 [1,2,3,4,19,20] 1 trivial ?_
 refine PL.gc (A:=[(19,false)]) (fun _=>guard_isTime_pc a) ?_
 refine PL.rw 4 [1,2,3,4,24,25] 1 trivial ?_
 refine PL.gc (A:=[(24,false)]) (fun _=>guard_isTime_pc t) ?_
 refine PL.rw 2 [1,2,3,4,28] 1 trivial ?_
 refine PL.nl ?_
 refine PW.cd ((((!x.on)||(!(timeB x.start)))||(!(timeB a)))||(!(timeB t))) (fun hz0 => ?_) (fun hz0 => ?_)
 ·try simp only [boolS,timeB_iff,timeB_not] at hz0
  refine PW.sr [8,9] 1 trivial ?_
  refine PW.ret ?_
  refine retQ_ret (d:=D.t [I 0,D.v (.bool false)]) (ps:=[]) kR trivial ?_
  have hn:=late_no (x:=x) (at_:=a) (arr:=t) (by intro h; rw [h.1] at hz0; simp only [Bool.true_eq_false,Bool.false_eq_true,false_or] at hz0; omega)
  rw [lateI,hn,if_neg (by simp)]
 ·try simp only [boolS,timeB_iff,timeB_not] at hz0
  refine PW.skip ?_
  show PW _ _ _ _ _
  refine PW.seq ?_
  refine PW.open [] kR ?_
  refine PO.tk [0,1,2,3,4,5] 10 [32,33,34] 4 trivial (fun _ _ h=>h) ?_
  refine PO.one (n:=3) 6 kR ?_
  refine PO1.gc _ (A:=[]) (fun _=>clock_Real_pc a p) ?_ rfl
  refine PO.tk [7,8,9] 3 [8,9] 0 trivial (fun _ _ h=>h) ?_
  refine PO.done kR ?_
  show PW _ _ _ _ _
  refine PW.ret ?_
  refine retQ_ret (d:=D.t [I (IntKind.i64.wrap ((IntKind.i64.wrap (t-x.start))-(realI a p))),D.v (.bool true)]) (ps:=[]) kR trivial ?_
  have hy:=lateB_iff.2 (show x.on=true∧(-1099511627776≤x.start∧x.start≤1099511627776)∧(-1099511627776≤a∧a≤1099511627776)∧(-1099511627776≤t∧t≤1099511627776) from ⟨hz0.1.1.1,hz0.1.1.2,hz0.1.2,hz0.2⟩)
  rw [lateI,hy,if_pos rfl]
theorem guard_Pass_pc (x:Guard) (a p w t:Int) (hw:Is64 w):PC Tryz.prog [] 31 [D.r (Guard.d x),I a,I p,I w,I t] (· = D.v (.bool (passB x a p w t))):=by
 refine PC.of (N:=36) Tryz.func31 rfl rfl (Nat.le_of_ble_eq_true rfl) ?_
 refine PW.sr [1,2,3,4,5] 1 trivial ?_
 refine PW.seq ?_
 refine PW.sr [1,2,3,4,5,15] 1 trivial ?_
 refine PW.cd (!x.on) (fun hz0 => ?_) (fun hz0 => ?_)
 ·try simp only [boolS] at hz0
  refine PW.sr [10] 1 trivial ?_
  refine PW.ret ?_
  refine retQ_ret (d:=D.v (.bool true)) (ps:=[]) kR trivial ?_
  rw [passB,hz0]
  rfl
 ·try simp only [boolS] at hz0
  refine PW.skip ?_
  show PW _ _ _ _ _
  refine PW.sg ?_
  refine PL.rw 4 [3,17,18,19,20] 1 trivial ?_
  refine PL.gc (A:=[]) (fun _=>guard_Late_pc x a p t) ?_
  refine PL.rw 5 [3,11,12] 1 trivial ?_
  refine PL.nl ?_
  refine PW.sr [10] 1 trivial ?_
  refine PW.ret ?_
  refine retQ_ret (d:=D.v (.bool (((lateB x a t)&&(decide ((lateI x a p t)≥(IntKind.i64.wrap (0-w)))))&&(decide ((lateI x a p t)≤w))))) (ps:=[]) kR trivial ?_
  rw [← pass_code hw hz0]
end Go.Proofs.YtnjoklfclnkklaaGreatDoor.Pl
