/- Deep reckoning: a struct built of parts with something behind them, in an open region. No function of the program in it. -/
import Derived.Test.YtkhdnlkdcikdmaaDpNil
namespace Go.Proofs.Ytkhdnlkdcikdmaa.Dp
open Go.RowKit Go.Proofs.Ytkhdnlkdcikdmaa.Sm
open Go.Proofs.Ytkhdnlkdcikdmaa.Ev (Obl opnds dstB PT nx pt_put undef_bool pickB isRow_false seenL seenR seen_all resRun)
set_option maxHeartbeats 1000000
set_option linter.unusedVariables false
set_option linter.unusedSimpArgs false
section
variable {P:Program} {N:Nat} {ops:Array Oper} {o:Oper} {Q:Exit→St→Prop} {s:St}
theorem PO1.build {hs:List Nat} {u i:Nat} {listed:Array Bool} {t:TypeId} {parts:Array (Nat×Operand)} {cs:List D} (ho:ops[i]? = some o) (hop:o.op = .build t parts) (hA:gpath ops s o=some []) (hd:dstB N [] o.dst=true) (hb:buildD P s t parts=some cs) (h:PO P N ops hs u (listed.setIfInBounds i true) Q (s.put o.dst [] (.r cs))):PO1 P N ops hs u listed Q s i:=fun κ B ρ a w0 w hI hb0=>by
 refine wpOp_of ho (val_step hI hA hd (.r cs) (fun _ => ?_) fun a' hI'=>⟨Agree.refl _ _ _,h κ B ρ a' w0 w hI' hb0⟩)
 unfold buildD at hb
 split at hb
 ·rename_i it fields dss h1 h2 h3
  split at hb
  ·rename_i zv places h4 h5
   obtain ⟨out,k1,k2,k3⟩:=fill_rep hI parts.toList dss _ cs zv.cells h3 hb (by simp) (fun j d u q1 q2=>by
    rw [List.getElem?_map] at q1
    obtain ⟨u',q3,rfl⟩:=Option.map_eq_some_iff.1 q1
    rw [Array.getElem?_toList] at q3
    rw [q3] at q2
    injection q2 with q2
    subst q2
    exact .c (.v _))
   have hbt:P.built t (parts.map fun (i,x)=>(i,a.eval x)).toList=some out:=by
    unfold Program.built
    rw [h1,h2]
    simp only [h4,h5]
    rw [Array.toList_map]
    exact k1
   refine ⟨.agg out,?_,?_⟩
   ·unfold execOp
    simp only [hop,Sem.run_bind,run_build w t _ out hbt,Sem.run_pure,Result.andThen_ok]
   ·have:=RepO.r (w:=w) (ok:=okW κ w ρ) (ρ := ρ) (cs:=cs) (vs:=out.toList) (by simpa using k2) (fun j d u q1 q2=>k3 j d u q1 (by simpa using q2))
    simpa using this
  ·cases hb
 ·cases hb
theorem PL.mkG {f:FuncId} {rest:List Oper} {A:List (Nat×Bool)} {cap:Array Operand} (cs:List D) (h:PL P N ops rest Q (s.put o.dst A (.c f cs))) (hk:(o.op,gpath ops s o,dstB N A o.dst,looksA s A cap.toList,cs.all D.shut)=(.makeFunc (.func f) #[] cap,some A,true,some cs,true):=by kernel_rfl):PL P N ops (o::rest) Q s:=fun κ B ρ a w0 w hI hb0=>by
 simp only [Prod.mk.injEq] at hk
 obtain ⟨hop,hA,hd,hl,hsh⟩:=hk
 refine val_step hI hA hd (.c f cs) (fun hp => ?_) fun a' hI'=>h κ B ρ a' w0 w hI' hb0
 obtain ⟨q1,q2⟩:=looksA_rep hI hp hl
 refine ⟨.func (.func f) #[] (cap.toList.map a.eval).toArray,?_,?_⟩
 ·unfold execOp
  simp only [hop,Instr.makeFunc,Sem.run_bind,Sem.run_pure,Result.andThen_ok]
  have e:cap.map a.eval=(cap.toList.map a.eval).toArray:=by rw [← Array.toList_map]
  rw [e,show (#[]:Array Operand).map a.eval = #[] from Array.map_empty]
 ·refine .one (.c (.c q1 fun j d v h1 h2 => ?_))
  have hds:=List.all_eq_true.1 hsh d (List.mem_of_getElem? h1)
  exact shut_rep (by cases d <;> first|rfl|cases hds) (q2 j d v h1 h2)
theorem PO.frzR {hs:List Nat} {n:Nat} {listed:Array Bool} {s':St} (b:Nat) {z m:Nat} {f f':Nat→List D} {t:TypeId} (hmb:s.mem[b]? = some (.row t z m f)) (hf:∀ i,i<m→f i=f' i) (hfx:s.fx≤b) (he:s.frzR b z m f'=s') (h:PO P N ops hs n listed Q s'):PO P N ops hs n listed Q s:=fun κ B ρ a w0 w hI hb=>by
 subst he
 refine wpAnyH_monoS (fun u hA=>⟨hA.size,fun k hk hn=>hA.block k hk fun ⟨b2,hb2,c,hc⟩=>hn ⟨b2,hb2,c,?_⟩⟩) _ _ _ _ (h κ B _ a w0 w (hI.frzR hmb hf hfx) hb)
 by_cases hbb:b2=b
 ·subst hbb
  have hl:b2 < ρ.length:=by
   have:=(List.getElem?_eq_some_iff.1 hc).1
   simpa using this
  rw [List.getElem?_set_self hl] at hc
  cases hc
 ·rw [List.getElem?_set_ne (Ne.symm hbb)] at hc
  exact hc
end
theorem fz_eq {n:Nat} {s:St} {d d':D} (S:D→St) (h:s=S (if decide (n≤n)=true then d else D.any)) (e:d=d'):s=S d':=by rw [h,decide_eq_true (Nat.le_refl n),if_pos rfl,e]
theorem sl_len {α : Type} [Inhabited α] {z n:Nat} {e : α → List D} {xs:List α} (h:xs.length=n):D.s n z (fun i=>e (xs.getD i default))=sl' z e xs:=by subst h; rfl
theorem PC.coarse {P:Program} {G:List (Nat×List D)} {f:FuncId} {ds:List D} {R R':D→Prop} (h:PC P G f ds R) (hR:∀ d,R d→∃ d',R' d'∧∀ (w:World) (ok:Nat→Prop) (v:Value),RepC w ok d v→RepC w ok d' v):PC P G f ds R':=fun κ w vs h1 h2 h3 h4=>(h κ w vs h1 h2 h3 h4).mono (by
 rintro e w' ⟨v,d,rfl,k1,k2,k3⟩
 obtain ⟨d',k4,k5⟩:=hR d k1
 exact ⟨v,d',rfl,k4,k5 _ _ _ k2,k3⟩)
theorem RepC.nil_s {w:World} {ok:Nat→Prop} {z:Nat} {f:Nat→List D} {v:Value} (h:RepC w ok (.v (.slice none 0 0)) v):RepC w ok (.s 0 z f) v:=by
 cases h
 exact .s0 z f none 0 (fun _=>rfl) (Nat.zero_le _)
theorem RepC.seqw {w:World} {ok:Nat→Prop} {n z:Nat} {f f':Nat→List D} {v:Value} (h:RepC w ok (.s n z f) v) (hf:∀ i,i<n→(f' i).length=z∧(f' i).all D.one=true∧∀ (j:Nat) (d':D),(f' i)[j]? = some d'→∃ d,(f i)[j]? = some d∧∀ (w:World) (ok:Nat→Prop) (u:Value),RepC w ok d u→RepC w ok d' u):RepC w ok (.s n z f') v:=by
 cases h with
 | s0 z f a c ha hc=>exact .s0 z f' a c ha hc
 | s vals hb hn hc hz hv hd =>
  refine .s vals hb hn hc (fun i hi=>⟨(hf i hi).1,(hf i hi).2.1⟩) hv fun i j d' hi hj => ?_
  obtain ⟨d,h1,h2⟩:=(hf i hi).2.2 j d' hj
  exact h2 _ _ _ (hd i j d hi h1)
end Go.Proofs.Ytkhdnlkdcikdmaa.Dp
