/- A network as an argument of a law; from a contract to a call. -/
import Derived.Test.YtdomlccfjnkbjaaGreatDoorDpB
import Derived.Test.YtdomlccfjnkbjaaGreatDoorDpC
namespace Go.Proofs.YtdomlccfjnkbjaaGreatDoor.Pl
open Go.RowKit Go.Proofs.YtdomlccfjnkbjaaGreatDoor.Sm Go.Proofs.YtdomlccfjnkbjaaGreatDoor.Dp
structure Part where
 nodes:Int
 faults:Int
deriving DecidableEq,Inhabited
structure Link where
 a:Int
 b:Int
 pa0:Int
 pa1:Int
 pb0:Int
 pb1:Int
deriving DecidableEq,Inhabited
structure Config where
 parts:List Part
 links:List Link
 cycle:Int
 lead:Int
 slot:Int
 window:Int
 drift:Int
 rate:Int
 ages:Int
 lost:Int
 listen:Int
 span:Int
 room:Int
deriving DecidableEq,Inhabited
structure Port where
 node:Int
 link:Int
 gate:Int
 side:Int
deriving DecidableEq,Inhabited
def Part.d (p:Part):List D:=[I p.nodes,I p.faults]
def Link.d (l:Link):List D:=[I l.a,I l.b,I l.pa0,I l.pa1,I l.pb0,I l.pb1]
def Port.d (p:Port):List D:=[I p.node,I p.link,I p.gate,I p.side]
def Config.d (c:Config):List D:=[sl' 2 Part.d c.parts,sl' 6 Link.d c.links,I c.cycle,I c.lead,I c.slot,I c.window,I c.drift,I c.rate,I c.ages,I c.lost,I c.listen,I c.span,I c.room]
end Go.Proofs.YtdomlccfjnkbjaaGreatDoor.Pl
namespace Go.Proofs.YtdomlccfjnkbjaaGreatDoor.Pl
open Go.ChangeShapes Go.WideShapes Go.ChangeAt Go.RowKit Go.Proofs.YtdomlccfjnkbjaaGreatDoor.Sm Go.Proofs.YtdomlccfjnkbjaaGreatDoor.Dp
set_option maxHeartbeats 1000000
set_option maxRecDepth 100000
set_option linter.unusedVariables false
def Is64 (n:Int):Prop := -9223372036854775808≤n∧n≤9223372036854775807
theorem RepC.seq {w:World} {ok:Nat→Prop} {n z:Nat} {f f':Nat→List D} {v:Value} (h:RepC w ok (.s n z f) v) (hf:∀ i,i<n→f i=f' i):RepC w ok (.s n z f') v:=by
 cases h with
 | s0 z f a c ha hc=>exact .s0 z f' a c ha hc
 | s vals hb hn hc hz hv hd=>exact .s vals hb hn hc (fun i hi=>by rw [← hf i hi]; exact hz i hi) hv fun i j d hi hj=>hd i j d hi (by rw [hf i hi]; exact hj)
theorem Fit.i64 {d:D} (h:Fit (.int .i64) d):∃ n,d=I n∧Is64 n:=by
 cases h with
 | int h=>exact ⟨_,rfl,bounds_i64 h⟩
theorem Fit.list {α : Type} [Inhabited α] {e:List Sh} {enc : α → List D} {Ok : α → Prop} {d:D} (h:Fit (.sl e) d) (hel:∀ ds,Fits e ds→∃ x,ds=enc x∧Ok x):∃ l:List α,(∀ x ∈ l,Ok x)∧l.length≤maxLen∧∀ (w:World) (ok:Nat→Prop) (v:Value),RepC w ok d v→RepC w ok (sl' e.length enc l) v:=by
 cases h with
 | @sl e n f hn hl h =>
  have each:∀ i,i<n→∃ x,f i=enc x∧Ok x:=fun i hi=>hel (f i) ⟨hl i hi,fun j s d h1 h2=>h i j s d hi h1 h2⟩
  obtain ⟨y,hy⟩:=Deep.choose_lt each
  refine ⟨(List.range n).map y,fun x hx => ?_,by simpa using hn,fun w ok v hr => ?_⟩
  ·obtain ⟨i,hi,rfl⟩:=List.mem_map.1 hx
   exact (hy i (List.mem_range.1 hi)).2
  ·unfold sl'
   have hlen:((List.range n).map y).length=n:=by simp
   rw [hlen]
   refine RepC.seq hr fun i hi => ?_
   rw [(hy i hi).1]
   simp [List.getD_eq_getElem?_getD,hi]
theorem Fits.ints {k:Nat} {ds:List D} (h:Fits (List.replicate k (.int .i64)) ds):ds.length=k∧∀ j,j<k→∃ n,ds[j]? = some (I n)∧Is64 n:=by
 have hl:ds.length=k:=by simpa using h.len
 refine ⟨hl,fun j hj => ?_⟩
 obtain ⟨n,h1,h2⟩:=Fit.i64 (h.fit j _ _ (by simp [hj]) (List.getElem?_eq_getElem oM))
 exact ⟨n,by rw [List.getElem?_eq_getElem oM,h1],h2⟩
def Part.ok (p:Part):Prop:=Is64 p.nodes∧Is64 p.faults
def Link.ok (l:Link):Prop:=Is64 l.a∧Is64 l.b∧Is64 l.pa0∧Is64 l.pa1∧Is64 l.pb0∧Is64 l.pb1
structure Config.ok (c:Config):Prop where
 parts:∀ p ∈ c.parts,p.ok
 links:∀ l ∈ c.links,l.ok
 cycle:Is64 c.cycle
 lead:Is64 c.lead
 slot:Is64 c.slot
 window:Is64 c.window
 drift:Is64 c.drift
 rate:Is64 c.rate
 ages:Is64 c.ages
 lost:Is64 c.lost
 listen:Is64 c.listen
 span:Is64 c.span
 room:Is64 c.room
theorem part_of (ds:List D) (h:Fits [.int .i64,.int .i64] ds):∃ p:Part,ds=p.d∧p.ok:=by
 obtain ⟨hl,hg⟩:=Fits.ints (k:=2) h
 match ds,hl with
 | [d0,d1],_ =>
  obtain ⟨n0,e0,w0⟩:=hg 0 (by decide)
  obtain ⟨n1,e1,w1⟩:=hg 1 (by decide)
  simp only [List.getElem?_cons_zero,List.getElem?_cons_succ,Option.some.injEq] at e0 e1
  subst e0 e1
  exact ⟨⟨n0,n1⟩,rfl,w0,w1⟩
theorem link_of (ds:List D) (h:Fits [.int .i64,.int .i64,.int .i64,.int .i64,.int .i64,.int .i64] ds):∃ l:Link,ds=l.d∧l.ok:=by
 obtain ⟨hl,hg⟩:=Fits.ints (k:=6) h
 match ds,hl with
 | [d0,d1,d2,d3,d4,d5],_ =>
  obtain ⟨n0,e0,w0⟩:=hg 0 (by decide)
  obtain ⟨n1,e1,w1⟩:=hg 1 (by decide)
  obtain ⟨n2,e2,w2⟩:=hg 2 (by decide)
  obtain ⟨n3,e3,w3⟩:=hg 3 (by decide)
  obtain ⟨n4,e4,w4⟩:=hg 4 (by decide)
  obtain ⟨n5,e5,w5⟩:=hg 5 (by decide)
  simp only [List.getElem?_cons_zero,List.getElem?_cons_succ,Option.some.injEq] at e0 e1 e2 e3 e4 e5
  subst e0 e1 e2 e3 e4 e5
  exact ⟨⟨n0,n1,n2,n3,n4,n5⟩,rfl,w0,w1,w2,w3,w4,w5⟩
def ConfV (w:World) (v:Value) (c:Config):Prop:=RepC w (fun g=>g<w.heap.size) (.r (Config.d c)) v∧c.ok
def shConf:List Sh:=[.sl [.int .i64,.int .i64],.sl [.int .i64,.int .i64,.int .i64,.int .i64,.int .i64,.int .i64],.int .i64,.int .i64,.int .i64,.int .i64,.int .i64,.int .i64,.int .i64,.int .i64,.int .i64,.int .i64,.int .i64]
theorem shConf_is:shOf Tryz.prog 5 30=some shConf:=by kernel_rfl
theorem config_of_trod {H:Type} {enc:TypeId×Value→H} {W:World} {r:Reach} {b0:Nat} {v:Value} {d:DataW H} {p:List MemPlace} (hv:Value.okWide Tryz.prog W r b0 30 v) (h:DataW.Trod enc Tryz.prog W 0 (fun _=>true) true 30 v d p):∃ c,ConfV W v c:=by
 obtain ⟨cs,rfl,hsz⟩:=okWide_struct Tryz.underlying30 hv
 obtain ⟨l⟩:=cs
 obtain ⟨fuel,hf⟩:=h
 obtain ⟨ds,hc⟩:=trod_came 5 _ _ fuel _ _ shConf_is hf
 have hl:=hc.fits.len
 match ds,hl with
 | [d0,d1,d2,d3,d4,d5,d6,d7,d8,d9,d10,d11,d12],_ =>
  have fit:=fun j s d=>hc.fits.fit j s d
  have num:∀ (j:Nat) (d:D),2≤j→j<13→[d0,d1,d2,d3,d4,d5,d6,d7,d8,d9,d10,d11,d12][j]? = some d→∃ n,d=I n∧Is64 n:=by
   intro j d h2 h13 hd
   refine Fit.i64 (fit j _ d ?_ hd)
   match j,h2,h13 with
   | 2,_,_|3,_,_|4,_,_|5,_,_|6,_,_|7,_,_|8,_,_|9,_,_|10,_,_|11,_,_|12,_,_=>rfl
   | 0,h,_|1,h,_=>omega
   | j+13,_,h=>omega
  obtain ⟨n2,rfl,w2⟩:=num 2 d2 (by decide) (by decide) rfl
  obtain ⟨n3,rfl,w3⟩:=num 3 d3 (by decide) (by decide) rfl
  obtain ⟨n4,rfl,w4⟩:=num 4 d4 (by decide) (by decide) rfl
  obtain ⟨n5,rfl,w5⟩:=num 5 d5 (by decide) (by decide) rfl
  obtain ⟨n6,rfl,w6⟩:=num 6 d6 (by decide) (by decide) rfl
  obtain ⟨n7,rfl,w7⟩:=num 7 d7 (by decide) (by decide) rfl
  obtain ⟨n8,rfl,w8⟩:=num 8 d8 (by decide) (by decide) rfl
  obtain ⟨n9,rfl,w9⟩:=num 9 d9 (by decide) (by decide) rfl
  obtain ⟨n10,rfl,w10⟩:=num 10 d10 (by decide) (by decide) rfl
  obtain ⟨n11,rfl,w11⟩:=num 11 d11 (by decide) (by decide) rfl
  obtain ⟨n12,rfl,w12⟩:=num 12 d12 (by decide) (by decide) rfl
  obtain ⟨ps,hp1,_,hp3⟩:=Fit.list (enc:=Part.d) (Ok:=Part.ok) (fit 0 _ d0 rfl rfl) part_of
  obtain ⟨ls,hl1,_,hl3⟩:=Fit.list (enc:=Link.d) (Ok:=Link.ok) (fit 1 _ d1 rfl rfl) link_of
  refine ⟨⟨ps,ls,n2,n3,n4,n5,n6,n7,n8,n9,n10,n11,n12⟩,?_,hp1,hl1,w2,w3,w4,w5,w6,w7,w8,w9,w10,w11,w12⟩
  have hlen:l.length=13:=hc.len
  refine .r hlen fun j d v h1 h2 => ?_
  have h2':(Value.agg l.toArray).cells.toList[j]? = some v:=h2
  match j with
  | 0 =>
   have e:sl' 2 Part.d ps=d:=Option.some.inj h1
   rw [← e]
   exact hp3 _ _ _ (hc.rep 0 d0 v rfl h2')
  | 1 =>
   have e:sl' 6 Link.d ls=d:=Option.some.inj h1
   rw [← e]
   exact hl3 _ _ _ (hc.rep 1 d1 v rfl h2')
  | j+2=>exact hc.rep (j+2) d v h1 h2'
theorem PC.calls {G:List (Nat×List D)} {f:FuncId} {ds:List D} {x:Value} {w:World} {vs:List Value} (h:PC Tryz.prog G f ds (· = D.v x)) (hG:∀ y ∈ G,GlC w (fun g=>g<w.heap.size) y) (hl:vs.length=ds.length) (hr:∀ (j:Nat) (d:D) (v:Value),ds[j]? = some d→vs[j]? = some v→RepC w (fun g=>g<w.heap.size) d v):Calls Tryz.prog f vs.toArray w fun e w'=>e = .returned x∧Below w.heap.size w w':=by
 refine (h (fun g=>g<w.heap.size) w vs (fun _ h=>h) hG hl hr).mono ?_
 rintro e w' ⟨v,d,rfl,rfl,hv,hb⟩
 cases hv
 exact ⟨rfl,hb⟩
end Go.Proofs.YtdomlccfjnkbjaaGreatDoor.Pl
