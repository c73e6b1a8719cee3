/- Lists as arguments of a law. -/
import Derived.Test.YtdomlccfjnkbjaaGreatDoorPlArg
import Derived.Test.YtdomlccfjnkbjaaGreatDoorDpC
namespace Go.Proofs.YtdomlccfjnkbjaaGreatDoor.Pl
open Go.ChangeShapes Go.WideShapes Go.ChangeAt Go.RowKit Go.Proofs.YtdomlccfjnkbjaaGreatDoor.Sm Go.Proofs.YtdomlccfjnkbjaaGreatDoor.Dp
set_option maxHeartbeats 4000000
set_option maxRecDepth 100000
set_option linter.unusedVariables false
set_option linter.unusedSimpArgs false
structure Guard where
 on:Bool
 start:Int
 ages:List Int
deriving DecidableEq,Inhabited
def Guard.d (g:Guard):List D:=[D.v (.bool g.on),I g.start,sl' 1 (fun x=>[I x]) g.ages]
def Guard.ok (g:Guard):Prop:=Is64 g.start∧(∀ x ∈ g.ages,Is64 x)∧g.ages.length≤maxLen
def GuardV (w:World) (v:Value) (g:Guard):Prop:=RepC w (fun g=>g<w.heap.size) (.r (Guard.d g)) v∧g.ok
def shGuard:List Sh:=[.bool,.int .i64,.sl [.int .i64]]
theorem shGuard_is:shOf Tryz.prog 5 35=some shGuard:=by kernel_rfl
theorem Fit.b {d:D} (h:Fit .bool d):∃ b,d=D.v (.bool b):=by
 cases h with
 | bool b=>exact ⟨b,rfl⟩
theorem int_of (ds:List D) (h:Fits [.int .i64] ds):∃ n:Int,ds=(fun x=>[I x]) n∧Is64 n:=by
 obtain ⟨hl,hg⟩:=Fits.ints (k:=1) h
 match ds,hl with
 | [d0],_ =>
  obtain ⟨n0,e0,w0⟩:=hg 0 (by decide)
  simp only [List.getElem?_cons_zero,Option.some.injEq] at e0
  subst e0
  exact ⟨n0,rfl,w0⟩
theorem guard_of_trod {H:Type} {enc:TypeId×Value→H} {W:World} {r:Reach} {b0:Nat} {v:Value} {d:DataW H} {p:List MemPlace} (hv:Value.okWide Tryz.prog W r b0 35 v) (h:DataW.Trod enc Tryz.prog W 0 (fun _=>true) true 35 v d p):∃ c,GuardV W v c:=by
 obtain ⟨cs,rfl,hsz⟩:=okWide_struct Tryz.underlying35 hv
 obtain ⟨l⟩:=cs
 obtain ⟨fuel,hf⟩:=h
 obtain ⟨ds,hc⟩:=trod_came 5 _ _ fuel _ _ shGuard_is hf
 have hl:=hc.fits.len
 match ds,hl with
 | [d0,d1,d2],_ =>
  obtain ⟨b0,rfl⟩:=Fit.b (hc.fits.fit 0 _ d0 rfl rfl)
  obtain ⟨n1,rfl,w1⟩:=Fit.i64 (hc.fits.fit 1 _ d1 rfl rfl)
  obtain ⟨ls,ha1,ha2,ha3⟩:=Fit.list (enc:=fun x=>[I x]) (Ok:=Is64) (hc.fits.fit 2 _ d2 rfl rfl) int_of
  refine ⟨⟨b0,n1,ls⟩,?_,w1,ha1,ha2⟩
  have hlen:l.length=3:=hc.len
  refine .r hlen fun j d v h1 h2 => ?_
  have h2':(Value.agg l.toArray).cells.toList[j]? = some v:=h2
  match j with
  | 2 =>
   have e:sl' 1 (fun x=>[I x]) ls=d:=Option.some.inj h1
   rw [← e]
   exact ha3 _ _ _ (hc.rep 2 d2 v rfl h2')
  | 0=>exact hc.rep 0 d v h1 h2'
  | 1=>exact hc.rep 1 d v h1 h2'
  | j+3=>exact absurd (show j+3<3 from (List.getElem?_eq_some_iff.1 h1).1) oM
end Go.Proofs.YtdomlccfjnkbjaaGreatDoor.Pl
namespace Go.Proofs.YtdomlccfjnkbjaaGreatDoor.Dp
open Go.RowKit Go.Proofs.YtdomlccfjnkbjaaGreatDoor.Sm
set_option maxHeartbeats 1000000
set_option linter.unusedVariables false
theorem PC.arg {P:Program} {G:List (Nat×List D)} {f:FuncId} {ds:List D} {R:D→Prop} (k:Nat) (d':D) {d0:D} (hk:ds[k]? = some d0) (hd:∀ w ok v,RepC w ok d0 v→RepC w ok d' v) (h:PC P G f (ds.set k d') R):PC P G f ds R:=fun κ w vs h1 h2 h3 h4=>h κ w vs h1 h2 (by rw [List.length_set]; exact h3) fun j d v e1 e2=>by
 have hlt:k<ds.length:=(List.getElem?_eq_some_iff.1 hk).1
 by_cases hj:k=j
 ·subst hj
  rw [List.getElem?_set_self hlt] at e1
  injection e1 with e1
  subst e1
  exact hd _ _ _ (h4 k d0 v hk e2)
 ·rw [List.getElem?_set_ne hj] at e1
  exact h4 j d v e1 e2
theorem PC.argnil {P:Program} {G:List (Nat×List D)} {f:FuncId} {ds cs:List D} {R:D→Prop} (k i z:Nat) (g:Nat→List D) (hk:ds[k]? = some (.r cs)) (hi:cs[i]? = some (.v (.slice none 0 0))) (h:PC P G f (ds.set k (.r (cs.set i (.s 0 z g)))) R):PC P G f ds R :=
 PC.arg k _ hk (fun w ok v hv=>hv.renil hi) h
theorem PC.argnil1 {P:Program} {G:List (Nat×List D)} {f:FuncId} {ds:List D} {R:D→Prop} (k z:Nat) (g:Nat→List D) (hk:ds[k]? = some (.v (.slice none 0 0))) (h:PC P G f (ds.set k (.s 0 z g)) R):PC P G f ds R :=
 PC.arg k _ hk (fun w ok v hv=>by cases hv; exact .s0 z g none 0 (fun _=>rfl) (Nat.zero_le _)) h
end Go.Proofs.YtdomlccfjnkbjaaGreatDoor.Dp
namespace Go.Proofs.YtdomlccfjnkbjaaGreatDoor.Dp
open Go.RowKit Go.Proofs.YtdomlccfjnkbjaaGreatDoor.Sm
open Go.Proofs.YtdomlccfjnkbjaaGreatDoor.Ev (Obl opnds dstB PT nx pt_put undef_bool pickB isRow_false seenL seenR seen_all resRun)
set_option maxHeartbeats 1000000
set_option linter.unusedVariables false
set_option linter.unusedSimpArgs false
section
variable {P:Program} {N:Nat} {ops:Array Oper} {o:Oper} {Q:Exit→St→Prop} {s:St}
theorem PO1.build {hs:List Nat} {u i:Nat} {listed:Array Bool} {t:TypeId} {parts:Array (Nat×Operand)} {cs:List D} (ho:ops[i]? = some o) (hop:o.op = .build t parts) (hA:gpath ops s o=some []) (hd:dstB N [] o.dst=true) (hb:buildD P s t parts=some cs) (h:PO P N ops hs u (listed.setIfInBounds i true) Q (s.put o.dst [] (.r cs))):PO1 P N ops hs u listed Q s i:=fun κ B ρ a w0 w hI hb0=>by
 refine wpOp_of ho (val_step hI hA hd (.r cs) (fun _ => ?_) fun a' hI'=>⟨Agree.refl _ _ _,h κ B ρ a' w0 w hI' hb0⟩)
 unfold buildD at hb
 split at hb
 ·rename_i it fields dss h1 h2 h3
  split at hb
  ·rename_i zv places h4 h5
   obtain ⟨out,k1,k2,k3⟩:=fill_rep hI parts.toList dss _ cs zv.cells h3 hb (by simp) (fun j d u q1 q2=>by
    rw [List.getElem?_map] at q1
    obtain ⟨u',q3,rfl⟩:=Option.map_eq_some_iff.1 q1
    rw [Array.getElem?_toList] at q3
    rw [q3] at q2
    injection q2 with q2
    subst q2
    exact .c (.v _))
   have hbt:P.built t (parts.map fun (i,x)=>(i,a.eval x)).toList=some out:=by
    unfold Program.built
    rw [h1,h2]
    simp only [h4,h5]
    rw [Array.toList_map]
    exact k1
   refine ⟨.agg out,?_,?_⟩
   ·unfold execOp
    simp only [hop,Sem.run_bind,run_build w t _ out hbt,Sem.run_pure,Result.andThen_ok]
   ·have:=RepO.r (w:=w) (ok:=okW κ w ρ) (ρ := ρ) (cs:=cs) (vs:=out.toList) (by simpa using k2) (fun j d u q1 q2=>k3 j d u q1 (by simpa using q2))
    simpa using this
  ·cases hb
 ·cases hb
theorem PL.mkG {f:FuncId} {rest:List Oper} {A:List (Nat×Bool)} {cap:Array Operand} (cs:List D) (h:PL P N ops rest Q (s.put o.dst A (.c f cs))) (hk:(o.op,gpath ops s o,dstB N A o.dst,looksA s A cap.toList,cs.all D.shut)=(.makeFunc (.func f) #[] cap,some A,true,some cs,true):=by kernel_rfl):PL P N ops (o::rest) Q s:=fun κ B ρ a w0 w hI hb0=>by
 simp only [Prod.mk.injEq] at hk
 obtain ⟨hop,hA,hd,hl,hsh⟩:=hk
 refine val_step hI hA hd (.c f cs) (fun hp => ?_) fun a' hI'=>h κ B ρ a' w0 w hI' hb0
 obtain ⟨q1,q2⟩:=looksA_rep hI hp hl
 refine ⟨.func (.func f) #[] (cap.toList.map a.eval).toArray,?_,?_⟩
 ·unfold execOp
  simp only [hop,Instr.makeFunc,Sem.run_bind,Sem.run_pure,Result.andThen_ok]
  have e:cap.map a.eval=(cap.toList.map a.eval).toArray:=by rw [← Array.toList_map]
  rw [e,show (#[]:Array Operand).map a.eval = #[] from Array.map_empty]
 ·refine .one (.c (.c q1 fun j d v h1 h2 => ?_))
  have hds:=List.all_eq_true.1 hsh d (List.mem_of_getElem? h1)
  exact shut_rep (by cases d <;> first|rfl|cases hds) (q2 j d v h1 h2)
theorem PO.frzR {hs:List Nat} {n:Nat} {listed:Array Bool} {s':St} (b:Nat) {z m:Nat} {f f':Nat→List D} {t:TypeId} (hmb:s.mem[b]? = some (.row t z m f)) (hf:∀ i,i<m→f i=f' i) (hfx:s.fx≤b) (he:s.frzR b z m f'=s') (h:PO P N ops hs n listed Q s'):PO P N ops hs n listed Q s:=fun κ B ρ a w0 w hI hb=>by
 subst he
 refine wpAnyH_monoS (fun u hA=>⟨hA.size,fun k hk hn=>hA.block k hk fun ⟨b2,hb2,c,hc⟩=>hn ⟨b2,hb2,c,?_⟩⟩) _ _ _ _ (h κ B _ a w0 w (hI.frzR hmb hf hfx) hb)
 by_cases hbb:b2=b
 ·subst hbb
  have hl:b2 < ρ.length:=by
   have:=(List.getElem?_eq_some_iff.1 hc).1
   simpa using this
  rw [List.getElem?_set_self hl] at hc
  cases hc
 ·rw [List.getElem?_set_ne (Ne.symm hbb)] at hc
  exact hc
end
theorem fz_eq {n:Nat} {s:St} {d d':D} (S:D→St) (h:s=S (if decide (n≤n)=true then d else D.any)) (e:d=d'):s=S d':=by rw [h,decide_eq_true (Nat.le_refl n),if_pos rfl,e]
theorem sl_len {α : Type} [Inhabited α] {z n:Nat} {e : α → List D} {xs:List α} (h:xs.length=n):D.s n z (fun i=>e (xs.getD i default))=sl' z e xs:=by subst h; rfl
theorem PC.coarse {P:Program} {G:List (Nat×List D)} {f:FuncId} {ds:List D} {R R':D→Prop} (h:PC P G f ds R) (hR:∀ d,R d→∃ d',R' d'∧∀ (w:World) (ok:Nat→Prop) (v:Value),RepC w ok d v→RepC w ok d' v):PC P G f ds R':=fun κ w vs h1 h2 h3 h4=>(h κ w vs h1 h2 h3 h4).mono (by
 rintro e w' ⟨v,d,rfl,k1,k2,k3⟩
 obtain ⟨d',k4,k5⟩:=hR d k1
 exact ⟨v,d',rfl,k4,k5 _ _ _ k2,k3⟩)
theorem RepC.nil_s {w:World} {ok:Nat→Prop} {z:Nat} {f:Nat→List D} {v:Value} (h:RepC w ok (.v (.slice none 0 0)) v):RepC w ok (.s 0 z f) v:=by
 cases h
 exact .s0 z f none 0 (fun _=>rfl) (Nat.zero_le _)
theorem RepC.seqw {w:World} {ok:Nat→Prop} {n z:Nat} {f f':Nat→List D} {v:Value} (h:RepC w ok (.s n z f) v) (hf:∀ i,i<n→(f' i).length=z∧(f' i).all D.one=true∧∀ (j:Nat) (d':D),(f' i)[j]? = some d'→∃ d,(f i)[j]? = some d∧∀ (w:World) (ok:Nat→Prop) (u:Value),RepC w ok d u→RepC w ok d' u):RepC w ok (.s n z f') v:=by
 cases h with
 | s0 z f a c ha hc=>exact .s0 z f' a c ha hc
 | s vals hb hn hc hz hv hd =>
  refine .s vals hb hn hc (fun i hi=>⟨(hf i hi).1,(hf i hi).2.1⟩) hv fun i j d' hi hj => ?_
  obtain ⟨d,h1,h2⟩:=(hf i hi).2.2 j d' hj
  exact h2 _ _ _ (hd i j d hi h1)
end Go.Proofs.YtdomlccfjnkbjaaGreatDoor.Dp
namespace Go.Proofs.YtdomlccfjnkbjaaGreatDoor.Pl
open Go.ChangeShapes Go.WideShapes Go.ChangeAt Go.RowKit Go.Proofs.YtdomlccfjnkbjaaGreatDoor.Sm Go.Proofs.YtdomlccfjnkbjaaGreatDoor.Dp
set_option maxHeartbeats 4000000
set_option maxRecDepth 100000
set_option linter.unusedVariables false
set_option linter.unusedSimpArgs false
theorem Fit.listC {α : Type} [Inhabited α] {e:List Sh} {enc : α → List D} {Ok : α → Prop} {d:D} (h:Fit (.sl e) d) (hel:∀ ds,Fits e ds→∃ x,((enc x).length=e.length∧(enc x).all D.one=true∧∀ (j:Nat) (d':D),(enc x)[j]? = some d'→∃ d,ds[j]? = some d∧∀ (w:World) (ok:Nat→Prop) (v:Value),RepC w ok d v→RepC w ok d' v)∧Ok x):∃ l:List α,(∀ x ∈ l,Ok x)∧l.length≤maxLen∧∀ (w:World) (ok:Nat→Prop) (v:Value),RepC w ok d v→RepC w ok (sl' e.length enc l) v:=by
 cases h with
 | @sl e n f hn hl h =>
  have each:∀ i,i<n→∃ x,((enc x).length=e.length∧(enc x).all D.one=true∧∀ (j:Nat) (d':D),(enc x)[j]? = some d'→∃ d,(f i)[j]? = some d∧∀ (w:World) (ok:Nat→Prop) (v:Value),RepC w ok d v→RepC w ok d' v)∧Ok x:=fun i hi=>hel (f i) ⟨hl i hi,fun j s d h1 h2=>h i j s d hi h1 h2⟩
  obtain ⟨y,hy⟩:=Deep.choose_lt each
  refine ⟨(List.range n).map y,fun x hx => ?_,by simpa using hn,fun w ok v hr => ?_⟩
  ·obtain ⟨i,hi,rfl⟩:=List.mem_map.1 hx
   exact (hy i (List.mem_range.1 hi)).2
  ·unfold sl'
   have hlen:((List.range n).map y).length=n:=by simp
   rw [hlen]
   refine RepC.seqw hr fun i hi => ?_
   have e1:((List.range n).map y).getD i default=y i:=by simp [List.getD_eq_getElem?_getD,hi]
   rw [e1]
   exact (hy i hi).1
theorem byte_of (ds:List D) (h:Fits [.int .u8] ds):∃ x:UInt8,ds=u8d x∧True:=by
 have hl:=h.len
 match ds,hl with
 | [d0],_ =>
  have hf:=h.fit 0 _ d0 rfl rfl
  cases hf with
  | @int k n hw =>
   have hb:=bounds_u8 hw
   refine ⟨UInt8.ofNat n.toNat,?_,trivial⟩
   have e:((UInt8.ofNat n.toNat).toNat:Int)=n:=by
    rw [UInt8.toNat_ofNat']
    omega
   unfold u8d
   rw [e]
theorem Fit.bytes {d:D} (h:Fit (.sl [.int .u8]) d):∃ l:List UInt8,l.length≤maxLen∧∀ (w:World) (ok:Nat→Prop) (v:Value),RepC w ok d v→RepC w ok (bytesD l) v:=by
 obtain ⟨l,_,h2,h3⟩:=Fit.list (enc:=u8d) (Ok:=fun _=>True) h byte_of
 exact ⟨l,h2,h3⟩
theorem Fit.intsL {d:D} (h:Fit (.sl [.int .i64]) d):∃ l:List Int,(∀ x ∈ l,Is64 x)∧l.length≤maxLen∧∀ (w:World) (ok:Nat→Prop) (v:Value),RepC w ok d v→RepC w ok (sl' 1 (fun x=>[I x]) l) v :=
 Fit.list (enc:=fun x=>[I x]) (Ok:=Is64) h int_of
section
variable {H:Type} {enc:TypeId×Value→H} {W:World} {a:Option Addr} {len cap:Nat} {d:DataW H} {p:List MemPlace}
theorem slice_came {t:TypeId} {e:List Sh} (hs:shOf Tryz.prog 8 t=some [.sl e]) (h:DataW.Trod enc Tryz.prog W 0 (fun _=>true) true t (.slice a len cap) d p):∃ d0,Fit (.sl e) d0∧RepC W (fun g=>g<W.heap.size) d0 (.slice a len cap):=by
 obtain ⟨fuel,hf⟩:=h
 obtain ⟨ds,hc⟩:=trod_came 8 _ _ fuel _ _ hs hf
 have hl:=hc.fits.len
 match ds,hl with
 | [d0],_=>exact ⟨d0,hc.fits.fit 0 _ d0 rfl rfl,hc.rep 0 d0 _ rfl rfl⟩
def IntsV (w:World) (a:Option Addr) (len cap:Nat) (l:List Int):Prop:=RepC w (fun g=>g<w.heap.size) (sl' 1 (fun x=>[I x]) l) (.slice a len cap)∧l.length≤maxLen
theorem ints_of_trod (h:DataW.Trod enc Tryz.prog W 0 (fun _=>true) true 22 (.slice a len cap) d p):∃ l,IntsV W a len cap l:=by
 obtain ⟨d0,h1,h2⟩:=slice_came (e:=[.int .i64]) kR h
 obtain ⟨l,_,h3,h4⟩:=Fit.intsL h1
 exact ⟨l,h4 _ _ _ h2,h3⟩
end
end Go.Proofs.YtdomlccfjnkbjaaGreatDoor.Pl
