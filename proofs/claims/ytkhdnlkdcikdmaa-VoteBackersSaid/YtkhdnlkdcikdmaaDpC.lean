/- Several texts in one: DpNext DpStr DpInl DpDiv DpW DpBrief DpByte. -/
import Derived.Test.YtkhdnlkdcikdmaaDpB
import Derived.Laws.Tables
import Derived.Great.FillDense
namespace Go.Proofs.Ytkhdnlkdcikdmaa.Dp
open Go.RowKit Go.Proofs.Ytkhdnlkdcikdmaa.Sm
open Go.Proofs.Ytkhdnlkdcikdmaa.Ev (Obl opnds dstB PT nx pt_put undef_bool pickB isRow_false seenL seenR seen_all resRun)
set_option maxHeartbeats 1000000
set_option linter.unusedVariables false
theorem PO1.val {P:Program} {N:Nat} {ops:Array Oper} {hs:List Nat} {n i:Nat} {listed:Array Bool} {Q:Exit→St→Prop} {s s':St} {o:Oper} (dl:List Nat) (mm:Nat) {p:Prop} (ho:ops[i]? = some o) (hA:gpath ops s o=some []) (hd:dstB N [] o.dst=true) (hx:(valD P default s [] o).isSome=true) (hres:(s.put o.dst [] ((valD P default s [] o).getD (.any,[],[])).1).sel dl mm=s') (hu:s'.underB mm=true) (hmm:s.mem.length=mm) (hob:seenL ((valD P default s [] o).getD (.any,[],[])).2.1=seenR ((valD P default s [] o).getD (.any,[],[])).2.1) (hne:andL ((valD P default s [] o).getD (.any,[],[])).2.2=p) (hp:p) (h:PO P N ops hs n (listed.setIfInBounds i true) Q s'):PO1 P N ops hs n listed Q s i:=fun κ B ρ a w0 w hI hb=>by
 subst hres
 obtain ⟨x,hx⟩:=Option.isSome_iff_exists.1 hx
 rw [hx] at hu hob hne h
 obtain ⟨dv,ob,nd⟩:=x
 refine wpOp_of ho (val_step hI hA hd dv (fun hpt=>valD_run hI hx (seen_all hob) (andL_all (show andL nd by rw [show andL nd=p from hne]; exact hp)) hpt) fun a' hI' => ?_)
 refine ⟨Agree.refl _ _ _,?_⟩
 have hr : ρ.take mm = ρ := List.take_of_length_le (by rw [hI.len]; exact Nat.le_of_eq hmm)
 have:=hI'.sel dl mm hu
 rw [hr] at this
 exact h κ B ρ a' w0 w this hb
end Go.Proofs.Ytkhdnlkdcikdmaa.Dp
namespace Go.Proofs.Ytkhdnlkdcikdmaa.Dp
open Go.RowKit Go.Proofs.Ytkhdnlkdcikdmaa.Sm
open Go.Proofs.Ytkhdnlkdcikdmaa.Ev (Obl opnds dstB PT nx pt_put undef_bool pickB isRow_false seenL seenR seen_all resRun)
set_option maxHeartbeats 1000000
set_option linter.unusedVariables false
set_option linter.unusedSimpArgs false
section
variable {κ : Nat→Prop} {B:Base} {N:Nat} {ρ ρ':Own} {s s':St} {a:Act} {w:World} {d:D} {v:Value} {b g c:Nat} {P:Program} {ops:Array Oper} {l rest:List Oper} {o:Oper} {Q:Exit→St→Prop} {cd:Code} {z m n:Nat} {f f':Nat→List D}
theorem fill_rep (hI:Inv κ B ρ s N a w) {place:Nat→Option (Nat×Nat)}:∀ (l:List (Nat×Operand)) (dss:List (List D)) (cs res:List D) (arr:Array Value),looks s (l.map (·.2))=some dss→fillD place cs ((l.map (·.1)).zip dss)=some res→arr.size=cs.length→(∀ (j:Nat) (d:D) (u:Value),cs[j]? = some d→arr[j]? = some u→Rep1 w (okW κ w ρ) ρ d u) →
  ∃ out,Instr.fill place arr (l.map fun x=>(x.1,a.eval x.2))=some out∧out.size=res.length∧∀ (j:Nat) (d:D) (u:Value),res[j]? = some d→out[j]? = some u→Rep1 w (okW κ w ρ) ρ d u
 | [],dss,cs,res,arr,hl,hf,hsz,hr=>by
  simp only [List.map_nil,List.zip_nil_left,fillD,Option.some.injEq] at hf
  subst hf
  exact ⟨arr,rfl,hsz,hr⟩
 | (i,x)::r,dss,cs,res,arr,hl,hf,hsz,hr=>by
  simp only [List.map_cons,looks] at hl
  split at hl
  ·rename_i ds dss' h1 h2
   injection hl with hl
   subst hl
   obtain ⟨dx,h3,h4⟩:=Option.bind_eq_some_iff.1 h1
   obtain ⟨q1,q2⟩:=cells_rep (look_rep hI h3 pt_nil) h4
   simp only [List.map_cons,List.zip_cons_cons,fillD] at hf
   split at hf
   ·cases hf
   ·rename_i off size hp
    split at hf
    ·rename_i hc
     simp only [Bool.and_eq_true,decide_eq_true_eq] at hc
     obtain ⟨g1,g2⟩:=Go.Great.foldl_set off (a.eval x).cells.toList 0 arr
     have hlen:(cs.take off++ds++cs.drop (off+ds.length)).length=cs.length:=splice_len cs ds off hc.2
     have hcs:(a.eval x).cells.size=ds.length:=by rw [← q1]; simp
     obtain ⟨out,k1,k2,k3⟩:=fill_rep hI r dss' (cs.take off++ds++cs.drop (off+ds.length)) res (((a.eval x).cells.toList.zipIdx 0).foldl (fun cs (x:Value×Nat)=>cs.setIfInBounds (off+x.2) x.1) arr) h2 hf (by rw [g1,hsz,hlen]) (by
      intro j d u h5 h6
      rw [splice_get cs ds off j hc.2] at h5
      rw [g2 j,Nat.add_zero] at h6
      by_cases hin:off≤j∧j<off+ds.length
      ·rw [if_pos hin] at h5
       rw [if_pos ⟨hin.1,by rw [q1]; exact hin.2,by omega⟩] at h6
       exact q2 _ d u h5 h6
      ·rw [if_neg hin] at h5
       rw [if_neg (by rw [q1]; omega)] at h6
       exact hr j d u h5 h6)
     refine ⟨out,?_,k2,k3⟩
     simp only [List.map_cons]
     unfold Instr.fill
     simp only [hp,hcs]
     rw [if_neg (by simp; omega),← k1]
     congr 1
     rw [← Array.foldl_toList,Array.toList_zipIdx]
    ·cases hf
  ·cases hl
def buildD (P:Program) (s:St) (t:TypeId) (parts:Array (Nat×Operand)):Option (List D):=match P.info? t,P.underlying t,looks s (parts.toList.map (·.2)) with
 | some it,some (.struct fields),some dss=>match it.zero,fields.toList.mapM (fun f=>(P.info? f.type).map fun i=>(f.offset,i.size)) with
  | some zv,some places=>fillD (places.toArray[·]?) (zv.cells.toList.map .v) ((parts.toList.map (·.1)).zip dss)
  | _,_=>none
 | _,_,_=>none
theorem PL.build {t:TypeId} {parts:Array (Nat×Operand)} {cs:List D} (hop:o.op = .build t parts) (hA:gpath ops s o=some []) (hd:dstB N [] o.dst=true) (hb:buildD P s t parts=some cs) (k:PL P N ops rest Q (s.put o.dst [] (.r cs))):PL P N ops (o::rest) Q s:=fun κ B ρ a w0 w hI hb0=>by
 refine val_step hI hA hd (.r cs) (fun _ => ?_) fun a' hI'=>k κ B ρ a' w0 w hI' hb0
 unfold buildD at hb
 split at hb
 ·rename_i it fields dss h1 h2 h3
  split at hb
  ·rename_i zv places h4 h5
   obtain ⟨out,k1,k2,k3⟩:=fill_rep hI parts.toList dss _ cs zv.cells h3 hb (by simp) (fun j d u q1 q2=>by
    rw [List.getElem?_map] at q1
    obtain ⟨u',q3,rfl⟩:=Option.map_eq_some_iff.1 q1
    rw [Array.getElem?_toList] at q3
    rw [q3] at q2
    injection q2 with q2
    subst q2
    exact .c (.v _))
   have hbt:P.built t (parts.map fun (i,x)=>(i,a.eval x)).toList=some out:=by
    unfold Program.built
    rw [h1,h2]
    simp only [h4,h5]
    rw [Array.toList_map]
    exact k1
   refine ⟨.agg out,?_,?_⟩
   ·unfold execOp
    simp only [hop,Sem.run_bind,run_build w t _ out hbt,Sem.run_pure,Result.andThen_ok]
   ·have:=RepO.r (w:=w) (ok:=okW κ w ρ) (ρ := ρ) (cs:=cs) (vs:=out.toList) (by simpa using k2) (fun j d u q1 q2=>k3 j d u q1 (by simpa using q2))
    simpa using this
  ·cases hb
 ·cases hb
def D.frzR1 (b z m:Nat) (f:Nat→List D):D→D
 | .p b1 z1 i1 o1=>if b1 == b then .any else .p b1 z1 i1 o1
 | .h b1 n1=>if b1 == b then (if decide (n1≤m) then .s n1 z f else .any) else .h b1 n1
 | .m b1 z1 o1 n1=>if b1 == b then .any else .m b1 z1 o1 n1
 | d=>d
def D.frzR (b z m:Nat) (f:Nat→List D):D→D
 | .r ds => .r (ds.map (D.frzR1 b z m f))
 | .k g ds => .k g (ds.map (D.frzR1 b z m f))
 | d=>d.frzR1 b z m f
def Obj.frzR (b z m:Nat) (f:Nat→List D):Obj→Obj
 | .var t ds => .var t (ds.map (D.frzR1 b z m f))
 | o=>o
def St.frzR (b z m:Nat) (f:Nat→List D) (s:St):St:={ s with tab:=s.tab.map fun e=>{ e with dv:=e.dv.frzR b z m f },mem:=(s.mem.map (Obj.frzR b z m f)).set b .dead }
theorem Rep1.frzR {x:Option (Nat×Nat)} (h:Rep1 w (okW κ w ρ) ρ d v) (hx : ρ[b]? = some x) (hm:∀ k,okW κ w ρ k→okW κ w ρ' k∧w.heap[k]? = w.heap[k]?) (ho:∀ (b':Nat) (x:Option (Nat×Nat)),b'≠b → ρ[b']? = some x → ρ'[b']? = some x) (hq:∀ n g c,x=some (g,c)→n≤m→n≤c→RepC w (okW κ w ρ') (.s n z f) (.slice (some ⟨g,0,none⟩) n c)):Rep1 w (okW κ w ρ') ρ' (d.frzR1 b z m f) v:=by
 cases h with
 | c h =>
  have e:d.frzR1 b z m f=d:=by cases h <;> rfl
  rw [e]
  exact .c (h.mono hm)
 | p h =>
  simp only [D.frzR1]
  split
  ·exact .c (.any _)
  ·rename_i hne; exact .p (ho _ _ (by simpa using hne) h)
 | h h hn =>
  simp only [D.frzR1]
  split
  ·rename_i hb
   obtain rfl:=(beq_iff_eq.1 hb)
   rw [h] at hx
   injection hx with hx
   split
   ·rename_i hd
    exact .c (hq _ _ _ hx.symm (of_decide_eq_true hd) hn)
   ·exact .c (.any _)
  ·rename_i hne; exact .h (ho _ _ (by simpa using hne) h) hn
 | h0 h =>
  simp only [D.frzR1]
  split
  ·split
   ·exact .c (.s0 _ _ none 0 (fun _=>rfl) (Nat.zero_le _))
   ·exact .c (.any _)
  ·rename_i hne; exact .h0 (ho _ _ (by simpa using hne) h)
 | m h hk hc hoo =>
  simp only [D.frzR1]
  split
  ·exact .c (.any _)
  ·rename_i hne; exact .m (ho _ _ (by simpa using hne) h) hk hc hoo
 | m0 h =>
  simp only [D.frzR1]
  split
  ·exact .c (.any _)
  ·rename_i hne; exact .m0 (ho _ _ (by simpa using hne) h)
theorem Inv.frzR (hI:Inv κ B ρ s N a w) {t:TypeId} (hmb:s.mem[b]? = some (.row t z m f)) (hf:∀ i,i<m→f i=f' i) (hfx:s.fx≤b):Inv κ B (ρ.set b none) (s.frzR b z m f') N a w:=by
 have hob:=hI.mem b _ hmb
 have hbl:b < ρ.length:=by rw [hI.len]; exact (List.getElem?_eq_some_iff.1 hmb).1
 obtain ⟨x,hx⟩:∃ x,ρ[b]? = some x:=⟨_,List.getElem?_eq_getElem hbl⟩
 have hset:∀ (b':Nat) (y:Option (Nat×Nat)),b'≠b → ρ[b']? = some y→(ρ.set b none)[b']? = some y:=fun b' y hne h=>by rw [List.getElem?_set_ne (Ne.symm hne)]; exact h
 have hback:∀ (b':Nat) (y:Nat×Nat),(ρ.set b none)[b']? = some (some y)→b'≠b ∧ ρ[b']? = some (some y):=by
  intro b' y h
  by_cases hb:b'=b
  ·subst hb
   rw [List.getElem?_set_self hbl] at h
   cases h
  ·rw [List.getElem?_set_ne (Ne.symm hb)] at h
   exact ⟨hb,h⟩
 have hm:∀ k,okW κ w ρ k→okW κ w (ρ.set b none) k∧w.heap[k]? = w.heap[k]? := fun k hk=>⟨⟨hk.1,fun b' y hy=>hk.2 b' y (hback b' y hy).2⟩,rfl⟩
 have hq:∀ n g c,x=some (g,c)→n≤m→n≤c→RepC w (okW κ w (ρ.set b none)) (.s n z f') (.slice (some ⟨g,0,none⟩) n c):=by
  rintro n g c rfl hnm hnc
  rcases hob with ⟨r1,r2⟩|⟨g',c',cur,r1,r2,r3,r4,r5,r6⟩
  ·rw [r1] at hx; cases hx
  ·rw [r1] at hx
   injection hx with hx
   injection hx with hx
   injection hx with e1 e2
   subst e1 e2
   have hgo:okW κ w (ρ.set b none) g':=⟨⟨hI.hκ g' (hI.own b _ r1).1,(hI.own b _ r1).2⟩,fun b' y hy e=>by
    obtain ⟨h1,h2⟩:=hback b' y hy
    exact h1 (hI.nd b' b _ _ h2 r1 e)⟩
   refine .s (fun i j=>(cur[i*z+j]?).getD undef) hgo hnc r4 (fun i hi => ?_) (fun i j hi hj => ?_) (fun i j d hi hj => ?_)
   ·have:=r6 i oM
    rw [hf i oM] at this
    exact ⟨this.1,this.2.1⟩
   ·obtain ⟨q1,_,q3⟩:=r6 i oM
    obtain ⟨u,q4,_⟩:=q3 j _ (List.getElem?_eq_getElem (show j<(f i).length by omega))
    show w.cell? ⟨g',0+(i*z+j),none⟩=_
    rw [Nat.zero_add,cell_of_row w _ _ cur t (0,0) r2,q4]
    rfl
   ·have hj':(f i)[j]? = some d:=by rw [hf i oM]; exact hj
    obtain ⟨u,q4,q5⟩:=(r6 i oM).2.2 j d hj'
    show RepC _ _ _ ((cur[i*z+j]?).getD undef)
    rw [q4]
    exact q5.mono hm
 have one:∀ {d:D} {v:Value},Rep1 w (okW κ w ρ) ρ d v→Rep1 w (okW κ w (ρ.set b none)) (ρ.set b none) (d.frzR1 b z m f') v:=fun h=>h.frzR hx hm hset hq
 have lst:∀ {ds:List D} {us:List Value},(∀ (j:Nat) (d:D) (v:Value),ds[j]? = some d→us[j]? = some v→Rep1 w (okW κ w ρ) ρ d v)→∀ (j:Nat) (d:D) (v:Value),(ds.map (D.frzR1 b z m f'))[j]? = some d→us[j]? = some v→Rep1 w (okW κ w (ρ.set b none)) (ρ.set b none) d v:=by
  intro ds us hd j d v h1 h2
  rw [List.getElem?_map] at h1
  obtain ⟨d',h3,rfl⟩:=Option.map_eq_some_iff.1 h1
  exact one (hd j d' v h3 h2)
 have ropen:∀ {d:D} {v:Value},RepO w (okW κ w ρ) ρ d v→RepO w (okW κ w (ρ.set b none)) (ρ.set b none) (d.frzR b z m f') v:=by
  intro d v h
  by_cases hr:∃ ds,d = .r ds
  ·obtain ⟨ds,rfl⟩:=hr
   obtain ⟨us,rfl,hl,hd⟩:=repO_r h
   exact .r (by simpa using hl) (lst hd)
  ·cases h with
   | one h =>
    have e:d.frzR b z m f'=d.frzR1 b z m f':=by cases d <;> first|rfl|exact absurd ⟨_,rfl⟩ hr|exact absurd h Rep1.not_k
    rw [e]
    exact .one (one h)
   | r hl hd=>exact absurd ⟨_,rfl⟩ hr
   | k hl hd=>exact .k (by simpa using hl) (lst hd)
 refine ⟨hI.size,hI.dfr,fun e he => ?_,by simp [St.frzR,hI.len],fun b' y hy=>hI.own b' y (hback b' y hy).2,fun b1 b2 y1 y2 h1 h2 e=>hI.nd b1 b2 y1 y2 (hback b1 y1 h1).2 (hback b2 y2 h2).2 e,fun b' o' hm' => ?_,fun y hy=>(hI.gl y hy).mono hm,hI.big,hI.hκ,hI.fx,fun i x hk h=>hset i x (by have:=hI.fx; omega) (hI.fix i x hk h)⟩
 ·obtain ⟨e0,h0,rfl⟩:=List.mem_map.1 he
  have hk:=hI.tab e0 h0
  exact ⟨fun hp=>ropen (hk.yes hp),hk.no,hk.lt⟩
 ·have hm2:((s.mem.map (Obj.frzR b z m f')).set b .dead)[b']? = some o':=hm'
  by_cases hb:b'=b
  ·subst hb
   rw [List.getElem?_set_self (by rw [List.length_map,← hI.len]; exact hbl)] at hm2
   injection hm2 with hm2
   subst hm2
   exact List.getElem?_set_self hbl
  ·rw [List.getElem?_set_ne (Ne.symm hb),List.getElem?_map] at hm2
   obtain ⟨o0,h3,rfl⟩:=Option.map_eq_some_iff.1 hm2
   have h4:=hI.mem b' o0 h3
   cases o0 with
   | dead=>exact hset _ _ hb h4
   | var t ds =>
    obtain ⟨g',us,r1,r2,r3,r4⟩:=h4
    exact ⟨g',us,by rw [List.length_map]; exact hset _ _ hb r1,r2,by simpa using r3,lst r4⟩
   | row t z n f =>
    rcases h4 with ⟨r1,r2⟩|⟨g',c,cur,r1,r2,r3,r4,r5,r6⟩
    ·exact .inl ⟨hset _ _ hb r1,r2⟩
    ·refine .inr ⟨g',c,cur,hset _ _ hb r1,r2,r3,r4,r5,fun i hi=>⟨(r6 i hi).1,(r6 i hi).2.1,fun j d hj => ?_⟩⟩
     obtain ⟨v,k1,k2⟩:=(r6 i hi).2.2 j d hj
     exact ⟨v,k1,k2.mono hm⟩
theorem PL.frzR (b:Nat) {t:TypeId} (hmb:s.mem[b]? = some (.row t z m f)) (hf:∀ i,i<m→f i=f' i) (hfx:s.fx≤b) (he:s.frzR b z m f'=s') (h:PL P N ops l Q s'):PL P N ops l Q s:=fun κ B ρ a w0 w hI hb=>by
 subst he
 exact h κ B _ a w0 w (hI.frzR hmb hf hfx) hb
end
end Go.Proofs.Ytkhdnlkdcikdmaa.Dp
namespace Go.Proofs.Ytkhdnlkdcikdmaa.Dp
open Go.RowKit Go.Proofs.Ytkhdnlkdcikdmaa.Sm
open Go.Proofs.Ytkhdnlkdcikdmaa.Ev (Obl opnds dstB PT nx pt_put undef_bool pickB isRow_false seenL seenR seen_all resRun)
set_option maxHeartbeats 1000000
set_option linter.unusedVariables false
set_option linter.unusedSimpArgs false
structure Mem (κ : Nat→Prop) (ρ : Own) (mem:List Obj) (w:World):Prop where
 len : ρ.length=mem.length
 own:∀ (b:Nat) (x:Nat×Nat),ρ[b]? = some (some x) → κ x.1∧x.1<w.heap.size
 nd:∀ (b b':Nat) (x x':Nat×Nat),ρ[b]? = some (some x) → ρ[b']? = some (some x')→x.1=x'.1→b=b'
 mem:∀ b o,mem[b]? = some o→ObjOk κ w ρ b o
def PI (P:Program) (G:List (Nat×List D)) (f:FuncId) (ds:List D) (mem:List Obj) (R:D→List Obj→Prop):Prop :=
 ∀ (κ : Nat→Prop) (w:World) (ρ : Own) (vs:List Value),Mem κ ρ mem w→(∀ g,w.heap.size≤g → κ g)→(∀ x ∈ G,GlC w (okW κ w ρ) x)→vs.length=ds.length→(∀ (j:Nat) (d:D) (v:Value),ds[j]? = some d→vs[j]? = some v→RepO w (okW κ w ρ) ρ d v) →
  Calls P f vs.toArray w fun e w'=>∃ v d mem' ρ',e = .returned v∧R d mem'∧RepO w' (okW κ w' ρ') ρ' d v∧Mem κ ρ' mem' w'∧(∀ (i:Nat) (x:Option (Nat×Nat)),ρ[i]? = some x → ρ'[i]? = some x)∧(∀ (b:Nat) (x:Nat×Nat),ρ'[b]? = some (some x)→w.heap.size≤x.1∨∃ (i:Nat) (y:Nat×Nat),ρ[i]? = some (some y)∧y.1=x.1) ∧
   w'.os=w.os∧w'.tape=w.tape∧w'.output=w.output∧w.heap.size≤w'.heap.size∧∀ k,k<w.heap.size→(∀ b c:Nat,ρ[b]? ≠ some (some (k,c)))→w'.heap[k]? = w.heap[k]?
def PK (P:Program) (G:List (Nat×List D)) (f:FuncId) (ds:List D) (mem:List Obj) (k:Nat) (R:D→List Obj→Prop):Prop :=
 ∀ (κ : Nat→Prop) (w:World) (ρ : Own) (vs:List Value),Mem κ ρ mem w→(∀ g,w.heap.size≤g → κ g)→(∀ x ∈ G,GlC w (okW κ w ρ) x)→vs.length=ds.length→(∀ (j:Nat) (d:D) (v:Value),ds[j]? = some d→vs[j]? = some v→RepO w (okW κ w ρ) ρ d v) →
  Calls P f vs.toArray w fun e w'=>∃ v d mem' ρ',e = .returned v∧R d mem'∧RepO w' (okW κ w' ρ') ρ' d v∧Mem κ ρ' mem' w'∧(∀ (i:Nat) (x:Option (Nat×Nat)),i<k → ρ[i]? = some x → ρ'[i]? = some x)∧(∀ (b:Nat) (x:Nat×Nat),ρ'[b]? = some (some x)→w.heap.size≤x.1∨∃ (i:Nat) (y:Nat×Nat),ρ[i]? = some (some y)∧y.1=x.1) ∧
   w'.os=w.os∧w'.tape=w.tape∧w'.output=w.output∧w.heap.size≤w'.heap.size∧∀ k,k<w.heap.size→(∀ b c:Nat,ρ[b]? ≠ some (some (k,c)))→w'.heap[k]? = w.heap[k]?
def resI1 (P:Program) (s:St):ResultVar→Option (D×List Prop)
 | .tmp t=>(s.look [] (.tmp t)).map fun d=>(d,[])
 | .cell q ty=>match s.look [] (.tmp q) with
  | some d=>loadD P s ty d
  | none=>none
def resI (P:Program) (s:St):List ResultVar→Option (D×List Prop)
 | [r]=>resI1 P s r
 | []=>some (.t [],[])
 | _=>none
def retI (P:Program) (rs:List ResultVar) (R:D→List Obj→Prop):Exit→St→Prop
 | .normal,s=>∃ d ps,resI P s rs=some (d,ps)∧andL ps∧R d s.mem
 | .ret,s=>∃ d ps,resI P s rs=some (d,ps)∧andL ps∧R d s.mem
 | _,_=>False
theorem retI_ret {P:Program} {rs:List ResultVar} {R:D→List Obj→Prop} {s:St} {d:D} {ps:List Prop} (h:resI P s rs=some (d,ps)) (hp:andL ps) (hR:R d s.mem):retI P rs R .ret s:=⟨d,ps,h,hp,hR⟩
theorem retI_normal {P:Program} {rs:List ResultVar} {R:D→List Obj→Prop} {s:St} {d:D} {ps:List Prop} (h:resI P s rs=some (d,ps)) (hp:andL ps) (hR:R d s.mem):retI P rs R .normal s:=⟨d,ps,h,hp,hR⟩
section
variable {κ : Nat→Prop} {B:Base} {N:Nat} {ρ ρ':Own} {s s':St} {a:Act} {w w' w0:World} {A:List (Nat×Bool)} {o:Oper} {ops:Array Oper} {P:Program} {d d':D} {v:Value} {rest l:List Oper} {Q:Exit→St→Prop} {G:List (Nat×List D)} {f:FuncId} {ds ds0:List D} {R:D→List Obj→Prop} {c:Code} {hs:List Nat} {n i b:Nat} {listed:Array Bool} {ps:List Prop} {mem:List Obj}
theorem resI_run (hI:Inv κ B ρ s N a w) {fn:Func} (h:resI P s fn.results.toList=some (d,ps)) (hp:∀ p ∈ ps,p):∃ v,(results fn a.tmps).run P w = .ok v w∧RepO w (okW κ w ρ) ρ d v:=by
 have hrs:(results fn a.tmps)=(do let vs ← fn.results.mapM (resRun a.tmps); pure (if h:vs.size=1 then vs[0] else .tuple vs):Sem Value):=rfl
 rw [hrs]
 generalize hr:fn.results=rs at h
 obtain ⟨l⟩:=rs
 change resI P s l=some (d,ps) at h
 match l,h with
 | [],h =>
  simp only [resI,Option.some.injEq,Prod.mk.injEq] at h
  obtain ⟨rfl,rfl⟩:=h
  exact ⟨.tuple #[],by simp,.one (.c (.t (vs:=[]) rfl fun j d v h=>by simp at h))⟩
 | [r],h =>
  have h1:∃ v,(resRun a.tmps r).run P w = .ok v w∧RepO w (okW κ w ρ) ρ d v:=by
   simp only [resI] at h
   cases r with
   | tmp t =>
    simp only [resI1] at h
    obtain ⟨d0,h1,h2⟩:=Option.map_eq_some_iff.1 h
    injection h2 with h2 h3
    subst h2
    refine ⟨sl a t,?_,look_rep hI h1 pt_nil⟩
    show (pure _:Sem Value).run P w=_
    rw [Sem.run_pure]
    rfl
   | cell q ty =>
    simp only [resI1] at h
    split at h
    ·rename_i d0 hq
     have hq':=look_rep hI hq pt_nil
     obtain ⟨u,h4,h3'⟩:=loadD_run hI hq' h hp
     have h3:=h3' w (fun _ _=>rfl) (fun _ _ _ _ _ _ _ _=>rfl)
     have hptr:∃ ad,a.eval (.tmp q) = .pointer (some ad):=by
      generalize a.eval (.tmp q)=vv at hq'
      cases d0 with
      | q cs o=>cases hq' with
       | one hq'=>cases hq' with
        | c hq'=>cases hq'; exact ⟨_,rfl⟩
      | p b z i o=>cases hq' with
       | one hq'=>cases hq' with
        | c hq'=>cases hq'
        | p hq'=>exact ⟨_,rfl⟩
      | _=>simp [loadD] at h
     obtain ⟨ad,had⟩:=hptr
     refine ⟨u,?_,h4⟩
     rw [had] at h3
     have hsl:sl a q = .pointer (some ad):=had
     have hsl':a.tmps.getD q undef = .pointer (some ad):=hsl
     show (do loadVar ty (← asAddr (a.tmps.getD q undef)):Sem Value).run P w=_
     rw [hsl']
     simp only [Instr.loadAt,Instr.sureAddr,Sem.run_bind,Sem.run_pure,Result.andThen_ok] at h3
     simp only [asAddr,Sem.run_bind,Sem.run_pure,Result.andThen_ok,h3]
    ·cases h
  obtain ⟨v,h1,h2⟩:=h1
  exact ⟨v,by simp [h1],h2⟩
theorem PI.of {fn:Func} (hf:P.funcs[f]? = some fn) (hb:fn.body=some c) (hn:fn.ntmps=N) (hle:ds.length≤N) (h:PW P N c (retI P fn.results.toList R) { tab:=entsD 0 ds,mem:=mem,gl:=G,fx:=mem.length }):PI P G f ds mem R:=by
 intro κ w ρ vs hM hκ hG hl hd
 have hsz:(vs.toArray++Array.replicate (fn.ntmps-vs.toArray.size) undef).size=N:=by simp; omega
 have hI:Inv κ ⟨w.heap.size,ρ,ρ.length⟩ ρ { tab:=entsD 0 ds,mem:=mem,gl:=G,fx:=mem.length } N { tmps:=vs.toArray++Array.replicate (fn.ntmps-vs.toArray.size) undef,defers:=[] } w:=by
  refine ⟨hsz,rfl,fun e he => ?_,hM.len,fun b y hy=>⟨.inr ⟨b,y,hy,rfl⟩,(hM.own b y hy).2⟩,hM.nd,hM.mem,hG,Nat.le_refl _,?_,hM.len.symm,fun i y _ h=>h⟩
  ·obtain ⟨j,d,h1,rfl⟩:=entsD_mem _ _ _ he
   have hj:j<vs.length:=by rw [hl]; exact (List.getElem?_eq_some_iff.1 h1).1
   refine ⟨fun _ => ?_,fun h=>absurd pt_nil h,?_⟩
   ·show RepO _ _ _ d (Sm.sl _ (0+j))
    have h2:=List.getElem?_eq_getElem hj
    have h3:(vs.toArray++Array.replicate (fn.ntmps-vs.toArray.size) undef)[j]? = some vs[j]:=by rw [Array.getElem?_append_left (by simpa using hj)]; simp
    have h4:Sm.sl ⟨vs.toArray++Array.replicate (fn.ntmps-vs.toArray.size) undef,[]⟩ (0+j)=vs[j]:=by
     unfold Sm.sl
     rw [Nat.zero_add]
     simp only [Array.getD_eq_getD_getElem?,h3,Option.getD_some]
    rw [h4]
    exact hd j d _ h1 h2
   ·show 0+j<(vs.toArray++Array.replicate (fn.ntmps-vs.toArray.size) undef).size
    rw [hsz]
    omega
  ·rintro g (hg|⟨i,y,h1,h2⟩)
   ·exact hκ g hg
   ·rw [← h2]; exact (hM.own i y h1).1
 refine calls_of_wp hf hb (Code.wp_mono ?_ (h _ _ _ _ _ hI))
 have fin:∀ (s':St) (ρ':Own) (a':Act) (w':World),(∃ d ps,resI P s' fn.results.toList=some (d,ps)∧andL ps∧R d s'.mem)→Inv κ ⟨w.heap.size,ρ,ρ.length⟩ ρ' s' N a' w'→BelB ⟨w.heap.size,ρ,ρ.length⟩ w w'→a'.defers=[]∧∃ v,(results fn a'.tmps).run P w' = .ok v w'∧∃ v' d mem' ρ',Ending.returned v = .returned v'∧R d mem'∧RepO w' (okW κ w' ρ') ρ' d v'∧Mem κ ρ' mem' w'∧(∀ (i:Nat) (x:Option (Nat×Nat)),ρ[i]? = some x → ρ'[i]? = some x)∧(∀ (b:Nat) (x:Nat×Nat),ρ'[b]? = some (some x)→w.heap.size≤x.1∨∃ (i:Nat) (y:Nat×Nat),ρ[i]? = some (some y)∧y.1=x.1) ∧
   w'.os=w.os∧w'.tape=w.tape∧w'.output=w.output∧w.heap.size≤w'.heap.size∧∀ k,k<w.heap.size→(∀ b c:Nat,ρ[b]? ≠ some (some (k,c)))→w'.heap[k]? = w.heap[k]? := by
  rintro s' ρ' a' w' ⟨d,ps,h1,h2,h3⟩ hI' hb'
  obtain ⟨v,k1,k2⟩:=resI_run hI' h1 (andL_all h2)
  refine ⟨hI'.dfr,v,k1,v,d,s'.mem,ρ',rfl,h3,k2,⟨hI'.len,fun b x hx=>⟨hI'.hκ _ (hI'.own b x hx).1,(hI'.own b x hx).2⟩,hI'.nd,hI'.mem⟩,fun i x h=>hI'.fix i x (List.getElem?_eq_some_iff.1 h).1 h,fun b x hx=>(hI'.own b x hx).1,hb'.os,hb'.tape,hb'.output,hb'.size,fun k hk hn=>hb'.block k hk fun ⟨i,y,q1,q2⟩=>hn i y.2 (by rw [q1,← q2])⟩
 rintro e a' w' ⟨s',ρ',h1,h2,h3⟩
 cases e with
 | normal=>exact fin s' ρ' a' w' h1 h2 h3
 | ret=>exact fin s' ρ' a' w' h1 h2 h3
 | _=>exact h1.elim
theorem PK.of {fn:Func} (hf:P.funcs[f]? = some fn) (hb:fn.body=some c) (hn:fn.ntmps=N) (hle:ds.length≤N) (k:Nat) (h:PW P N c (retI P fn.results.toList R) { tab:=entsD 0 ds,mem:=mem,gl:=G,fx:=k }):PK P G f ds mem k R:=by
 intro κ w ρ vs hM hκ hG hl hd
 have hsz:(vs.toArray++Array.replicate (fn.ntmps-vs.toArray.size) undef).size=N:=by simp; omega
 have hI:Inv κ ⟨w.heap.size,ρ,k⟩ ρ { tab:=entsD 0 ds,mem:=mem,gl:=G,fx:=k } N { tmps:=vs.toArray++Array.replicate (fn.ntmps-vs.toArray.size) undef,defers:=[] } w:=by
  refine ⟨hsz,rfl,fun e he => ?_,hM.len,fun b y hy=>⟨.inr ⟨b,y,hy,rfl⟩,(hM.own b y hy).2⟩,hM.nd,hM.mem,hG,Nat.le_refl _,?_,rfl,fun i y _ h=>h⟩
  ·obtain ⟨j,d,h1,rfl⟩:=entsD_mem _ _ _ he
   have hj:j<vs.length:=by rw [hl]; exact (List.getElem?_eq_some_iff.1 h1).1
   refine ⟨fun _ => ?_,fun h=>absurd pt_nil h,?_⟩
   ·show RepO _ _ _ d (Sm.sl _ (0+j))
    have h2:=List.getElem?_eq_getElem hj
    have h3:(vs.toArray++Array.replicate (fn.ntmps-vs.toArray.size) undef)[j]? = some vs[j]:=by rw [Array.getElem?_append_left (by simpa using hj)]; simp
    have h4:Sm.sl ⟨vs.toArray++Array.replicate (fn.ntmps-vs.toArray.size) undef,[]⟩ (0+j)=vs[j]:=by
     unfold Sm.sl
     rw [Nat.zero_add]
     simp only [Array.getD_eq_getD_getElem?,h3,Option.getD_some]
    rw [h4]
    exact hd j d _ h1 h2
   ·show 0+j<(vs.toArray++Array.replicate (fn.ntmps-vs.toArray.size) undef).size
    rw [hsz]
    omega
  ·rintro g (hg|⟨i,y,h1,h2⟩)
   ·exact hκ g hg
   ·rw [← h2]; exact (hM.own i y h1).1
 refine calls_of_wp hf hb (Code.wp_mono ?_ (h _ _ _ _ _ hI))
 have fin:∀ (s':St) (ρ':Own) (a':Act) (w':World),(∃ d ps,resI P s' fn.results.toList=some (d,ps)∧andL ps∧R d s'.mem)→Inv κ ⟨w.heap.size,ρ,k⟩ ρ' s' N a' w'→BelB ⟨w.heap.size,ρ,k⟩ w w'→a'.defers=[]∧∃ v,(results fn a'.tmps).run P w' = .ok v w'∧∃ v' d mem' ρ',Ending.returned v = .returned v'∧R d mem'∧RepO w' (okW κ w' ρ') ρ' d v'∧Mem κ ρ' mem' w'∧(∀ (i:Nat) (x:Option (Nat×Nat)),i<k → ρ[i]? = some x → ρ'[i]? = some x)∧(∀ (b:Nat) (x:Nat×Nat),ρ'[b]? = some (some x)→w.heap.size≤x.1∨∃ (i:Nat) (y:Nat×Nat),ρ[i]? = some (some y)∧y.1=x.1) ∧
   w'.os=w.os∧w'.tape=w.tape∧w'.output=w.output∧w.heap.size≤w'.heap.size∧∀ k,k<w.heap.size→(∀ b c:Nat,ρ[b]? ≠ some (some (k,c)))→w'.heap[k]? = w.heap[k]? := by
  rintro s' ρ' a' w' ⟨d,ps,h1,h2,h3⟩ hI' hb'
  obtain ⟨v,k1,k2⟩:=resI_run hI' h1 (andL_all h2)
  refine ⟨hI'.dfr,v,k1,v,d,s'.mem,ρ',rfl,h3,k2,⟨hI'.len,fun b x hx=>⟨hI'.hκ _ (hI'.own b x hx).1,(hI'.own b x hx).2⟩,hI'.nd,hI'.mem⟩,fun i x hk h=>hI'.fix i x hk h,fun b x hx=>(hI'.own b x hx).1,hb'.os,hb'.tape,hb'.output,hb'.size,fun k hk hn=>hb'.block k hk fun ⟨i,y,q1,q2⟩=>hn i y.2 (by rw [q1,← q2])⟩
 rintro e a' w' ⟨s',ρ',h1,h2,h3⟩
 cases e with
 | normal=>exact fin s' ρ' a' w' h1 h2 h3
 | ret=>exact fin s' ρ' a' w' h1 h2 h3
 | _=>exact h1.elim
theorem RepO.on {ok ok':Nat→Prop} (h:RepO w ok ρ d v) (hk:∀ g,ok g→ok' g∧w'.heap[g]? = w.heap[g]?) (hr:∀ (i:Nat) (x:Option (Nat×Nat)),ρ[i]? = some x → ρ'[i]? = some x):RepO w' ok' ρ' d v:=by
 have h1:∀ {d:D} {v:Value},Rep1 w ok ρ d v→Rep1 w' ok' ρ' d v:=by
  intro d v h
  cases h with
  | c h=>exact .c (h.mono hk)
  | p h=>exact .p (hr _ _ h)
  | h h hn=>exact .h (hr _ _ h) hn
  | h0 h=>exact .h0 (hr _ _ h)
  | m h hk hc ho=>exact .m (hr _ _ h) hk hc ho
  | m0 h=>exact .m0 (hr _ _ h)
 cases h with
 | one h=>exact .one (h1 h)
 | r hl hd=>exact .r hl fun j d v a b=>h1 (hd j d v a b)
 | k hl hd=>exact .k hl fun j d v a b=>h1 (hd j d v a b)
theorem callI_core (hI:Inv κ B ρ s N a w) (hc:callD P s [] o=some (f,ds)) (hm:s.mem=mem) (hG:s.gl=G) (hpi:PI P G f ds mem R) :
  ∃ vs:List Value,(execOp a.eval o).run P w = .ok (.enter f vs.toArray) w∧Calls P f vs.toArray w fun e w'=>∃ v d mem' ρ',e = .returned v∧R d mem'∧RepO w' (okW κ w' ρ') ρ' d v∧Inv κ B ρ' { s with mem:=mem' } N a w'∧BelB B w w'∧Fr (List.range mem.length) ρ w ρ' w':=by
 subst hm hG
 obtain ⟨vs,h1,h2,h3⟩:=run_call hI pt_nil hc
 refine ⟨vs,h1,(hpi κ w ρ vs ⟨hI.len,fun b x hx=>⟨hI.hκ _ (hI.own b x hx).1,(hI.own b x hx).2⟩,hI.nd,hI.mem⟩ (fun g hg=>hI.hκ g (.inl (Nat.le_trans hI.big hg))) hI.gl h2 h3).mono ?_⟩
 rintro e w' ⟨v,d,mem',ρ',rfl,hr,hrep,hM,hpre,hnew,k1,k2,k3,k4,k5⟩
 have hk:∀ g,okW κ w ρ g→okW κ w' ρ' g∧w'.heap[g]? = w.heap[g]? := fun g hg=>⟨⟨⟨hg.1.1,Nat.lt_of_lt_of_le hg.1.2 k4⟩,fun b x hx e=>by
  rcases hnew b x hx with h|⟨i,y,q1,q2⟩
  ·have:=hg.1.2; omega
  ·exact hg.2 i y q1 (q2.trans e)⟩,k5 g hg.1.2 fun b c hb=>hg.2 b _ hb rfl⟩
 refine ⟨v,d,mem',ρ',rfl,hr,hrep,⟨hI.size,hI.dfr,fun e he=>⟨fun hp=>((hI.tab e he).yes hp).on hk hpre,(hI.tab e he).no,(hI.tab e he).lt⟩,hM.len,fun b x hx=>⟨?_,(hM.own b x hx).2⟩,hM.nd,hM.mem,fun y hy=>(hI.gl y hy).mono hk,Nat.le_trans hI.big k4,hI.hκ,hI.fx,fun i x hk h=>hpre i x (hI.fix i x hk h)⟩,⟨k1,k2,k3,k4,fun k hkB hl=>k5 k (Nat.lt_of_lt_of_le hkB hI.big) fun b c hb => ?_⟩,⟨fun k hkw hne=>k5 k hkw fun b c hb=>hne b (List.mem_range.2 (by rw [← hI.len]; exact (List.getElem?_eq_some_iff.1 hb).1)) c hb,fun b k c h hkw=>by
  rcases hnew b (k,c) h with h1|⟨i,y,q1,q2⟩
  ·exact absurd hkw (Nat.not_lt.2 h1)
  ·have e:=hM.nd i b y (k,c) (hpre i _ q1) h q2
   subst e
   exact ⟨y.2,by rw [q1,← (show y.1=k from q2)]⟩⟩⟩
 ·rcases hnew b x hx with h|⟨i,y,q1,q2⟩
  ·exact .inl (Nat.le_trans hI.big h)
  ·rw [← q2]; exact (hI.own i y q1).1
 ·rcases (hI.own b _ hb).1 with h|h
  ·exact absurd hkB (Nat.not_lt.2 h)
  ·exact hl h
theorem PL.callI (hA:gpath ops s o=some []) (hd:dstB N [] o.dst=true) (hc:callD P s [] o=some (f,ds)) (hm:s.mem=mem) (hG:s.gl=G) (hpi:PI P G f ds mem R) (k:∀ d mem',R d mem'→PL P N ops rest Q ({ s with mem:=mem' }.put o.dst [] d)):PL P N ops (o::rest) Q s:=fun κ B ρ a w0 w hI hb0=>by
 obtain ⟨vs,h1,h2⟩:=callI_core hI hc hm hG hpi
 refine BigFrame.wpList_want (gpath_nil hI hA) fun K hK => ?_
 unfold Oper.wp
 rw [h1,Oper.upon_enter]
 refine h2.mono ?_
 rintro e w' ⟨v,d,mem',ρ',rfl,hr,hrep,hI',hb,_⟩
 exact hK _ _ (k d mem' hr κ B ρ' _ w0 w' (inv_put hI' hd (fun _=>hrep) fun h=>absurd pt_nil h) (hb0.trans hb))
theorem PO1.callI (ho:ops[i]? = some o) (hA:gpath ops s o=some []) (hd:dstB N [] o.dst=true) (hc:callD P s [] o=some (f,ds)) (hm:s.mem=mem) (hG:s.gl=G) (hT:(List.range mem.length).all (fun b=>hs.contains b)=true) (hpi:PI P G f ds mem R) (k:∀ d mem',R d mem'→PO P N ops hs n (listed.setIfInBounds i true) Q ({ s with mem:=mem' }.put o.dst [] d)):PO1 P N ops hs n listed Q s i:=fun κ B ρ a w0 w hI hb0=>by
 obtain ⟨vs,h1,h2⟩:=callI_core hI hc hm hG hpi
 refine wpOp_of ho (BigFrame.wpList_want (gpath_nil hI hA) fun K hK => ?_)
 unfold Oper.wp
 rw [h1,Oper.upon_enter]
 refine h2.mono ?_
 rintro e w' ⟨v,d,mem',ρ',rfl,hr,hrep,hI',hb,hfr⟩
 exact hK _ _ ⟨hfr.agree hT hb.size,wpAnyH_monoS (hfr.agrees hT hb.size) _ _ _ _ (k d mem' hr κ B ρ' _ w0 w' (inv_put hI' hd (fun _=>hrep) fun h=>absurd pt_nil h) (hb0.trans hb))⟩
theorem Rep1.onK {k:Nat} {ok ok':Nat→Prop} (h:Rep1 w ok ρ d v) (hk:∀ g,ok g→ok' g∧w'.heap[g]? = w.heap[g]?) (hr:∀ (i:Nat) (x:Option (Nat×Nat)),i<k → ρ[i]? = some x → ρ'[i]? = some x) (hu:d.under1 k=true):Rep1 w' ok' ρ' d v:=by
 cases h with
 | c h=>exact .c (h.mono hk)
 | p h=>exact .p (hr _ _ (of_decide_eq_true hu) h)
 | h h hn=>exact .h (hr _ _ (of_decide_eq_true hu) h) hn
 | h0 h=>exact .h0 (hr _ _ (of_decide_eq_true hu) h)
 | m h h2 hc ho=>exact .m (hr _ _ (of_decide_eq_true hu) h) h2 hc ho
 | m0 h=>exact .m0 (hr _ _ (of_decide_eq_true hu) h)
theorem RepO.onK {k:Nat} {ok ok':Nat→Prop} (h:RepO w ok ρ d v) (hk:∀ g,ok g→ok' g∧w'.heap[g]? = w.heap[g]?) (hr:∀ (i:Nat) (x:Option (Nat×Nat)),i<k → ρ[i]? = some x → ρ'[i]? = some x) (hu:d.under k=true):RepO w' ok' ρ' d v:=by
 by_cases hq:∃ cs,d = .r cs
 ·obtain ⟨cs,rfl⟩:=hq
  obtain ⟨vs,rfl,hl,hd⟩:=repO_r h
  exact .r hl fun j d v h1 h2=>(hd j d v h1 h2).onK hk hr (List.all_eq_true.1 hu d (List.mem_of_getElem? h1))
 ·cases h with
  | one h =>
   have e:d.under k=d.under1 k:=by cases d <;> first|rfl|exact absurd ⟨_,rfl⟩ hq|exact absurd h Rep1.not_k
   rw [e] at hu
   exact .one (h.onK hk hr hu)
  | r hl hd=>exact absurd ⟨_,rfl⟩ hq
  | k hl hd=>exact .k hl fun j d v h1 h2=>(hd j d v h1 h2).onK hk hr (List.all_eq_true.1 hu d (List.mem_of_getElem? h1))
theorem PL.callK {k0:Nat} (hA:gpath ops s o=some []) (hd:dstB N [] o.dst=true) (hc:callD P s [] o=some (f,ds)) (hm:s.mem=mem) (hG:s.gl=G) (hu:s.tab.all (fun e=>e.dv.under k0)=true) (hf:s.fx≤k0) (hpk:PK P G f ds mem k0 R) (k:∀ d mem',R d mem'→PL P N ops rest Q ({ s with mem:=mem' }.put o.dst [] d)):PL P N ops (o::rest) Q s:=fun κ B ρ a w0 w hI hb0=>by
 subst hm hG
 obtain ⟨vs,h1,h2,h3⟩:=run_call hI pt_nil hc
 refine BigFrame.wpList_want (gpath_nil hI hA) fun K hK => ?_
 unfold Oper.wp
 rw [h1,Oper.upon_enter]
 refine (hpk κ w ρ vs ⟨hI.len,fun b x hx=>⟨hI.hκ _ (hI.own b x hx).1,(hI.own b x hx).2⟩,hI.nd,hI.mem⟩ (fun g hg=>hI.hκ g (.inl (Nat.le_trans hI.big hg))) hI.gl h2 h3).mono ?_
 rintro e w' ⟨v,d,mem',ρ',rfl,hr,hrep,hM,hpre,hnew,k1,k2,k3,k4,k5⟩
 have hk:∀ g,okW κ w ρ g→okW κ w' ρ' g∧w'.heap[g]? = w.heap[g]? := fun g hg=>⟨⟨⟨hg.1.1,Nat.lt_of_lt_of_le hg.1.2 k4⟩,fun b x hx e=>by
  rcases hnew b x hx with h|⟨i,y,q1,q2⟩
  ·have:=hg.1.2; omega
  ·exact hg.2 i y q1 (q2.trans e)⟩,k5 g hg.1.2 fun b c hb=>hg.2 b _ hb rfl⟩
 have hI':Inv κ B ρ' { s with mem:=mem' } N a w':=⟨hI.size,hI.dfr,fun e he=>⟨fun hp=>((hI.tab e he).yes hp).onK hk hpre (List.all_eq_true.1 hu e he),(hI.tab e he).no,(hI.tab e he).lt⟩,hM.len,fun b x hx=>⟨by
  rcases hnew b x hx with h|⟨i,y,q1,q2⟩
  ·exact .inl (Nat.le_trans hI.big h)
  ·rw [← q2]; exact (hI.own i y q1).1,(hM.own b x hx).2⟩,hM.nd,hM.mem,fun y hy=>(hI.gl y hy).mono hk,Nat.le_trans hI.big k4,hI.hκ,hI.fx,fun i x hi h=>hpre i x (by have:=hI.fx; omega) (hI.fix i x hi h)⟩
 have hb:BelB B w w':=⟨k1,k2,k3,k4,fun k hkB hl=>k5 k (Nat.lt_of_lt_of_le hkB hI.big) fun b c hb=>by
  rcases (hI.own b _ hb).1 with h|h
  ·exact absurd hkB (Nat.not_lt.2 h)
  ·exact hl h⟩
 exact hK _ _ (k d mem' hr κ B ρ' _ w0 w' (inv_put hI' hd (fun _=>hrep) fun h=>absurd pt_nil h) (hb0.trans hb))
theorem Inv.wide (hI:Inv κ B ρ s N a w):Inv (fun _=>True) ⟨0,[],0⟩ ρ { s with fx:=0 } N a w:=by
 have hk:∀ g,okW κ w ρ g→okW (fun _=>True) w ρ g:=fun g hg=>⟨⟨trivial,hg.1.2⟩,hg.2⟩
 have hm:∀ g,okW κ w ρ g→okW (fun _=>True) w ρ g∧w.heap[g]? = w.heap[g]? := fun g hg=>⟨hk g hg,rfl⟩
 have one:∀ {d:D} {v:Value},Rep1 w (okW κ w ρ) ρ d v→Rep1 w (okW (fun _=>True) w ρ) ρ d v:=by
  intro d v h
  cases h with
  | c h=>exact .c (h.mono hm)
  | p h=>exact .p h
  | h h hn=>exact .h h hn
  | h0 h=>exact .h0 h
  | m h hk hc ho=>exact .m h hk hc ho
  | m0 h=>exact .m0 h
 refine ⟨hI.size,hI.dfr,fun e he=>⟨fun hp=>((hI.tab e he).yes hp).keep hk,(hI.tab e he).no,(hI.tab e he).lt⟩,hI.len,fun b x hx=>⟨.inl (Nat.zero_le _),(hI.own b x hx).2⟩,hI.nd,fun b o ho => ?_,fun y hy=>(hI.gl y hy).mono hm,Nat.zero_le _,fun _ _=>trivial,rfl,fun i x _ h=>by simp at h⟩
 have h4:=hI.mem b o ho
 cases o with
 | dead=>exact h4
 | var t ds =>
  obtain ⟨g',us,r1,r2,r3,r4⟩:=h4
  exact ⟨g',us,r1,r2,r3,fun j d v q1 q2=>one (r4 j d v q1 q2)⟩
 | row t z n f =>
  rcases h4 with r|⟨g',c,cur,r1,r2,r3,r4,r5,r6⟩
  ·exact .inl r
  ·refine .inr ⟨g',c,cur,r1,r2,r3,r4,r5,fun i hi=>⟨(r6 i hi).1,(r6 i hi).2.1,fun j d hj => ?_⟩⟩
   obtain ⟨v,k1,k2⟩:=(r6 i hi).2.2 j d hj
   exact ⟨v,k1,k2.mono hm⟩
def closeA (s:St):List D→Option (List D×List Prop)
 | []=>some ([],[])
 | d::r=>match closeD s d,closeA s r with
  | some (d',p),some (r',q)=>some (d'::r',p++q)
  | _,_=>none
theorem closeA_rep (hI:Inv κ B ρ s N a w):∀ {cs cs':List D} {vs:List Value} {ps:List Prop},closeA s cs=some (cs',ps)→vs.length=cs.length→(∀ (j:Nat) (d:D) (u:Value),cs[j]? = some d→vs[j]? = some u→RepO w (okW κ w ρ) ρ d u)→(∀ p ∈ ps,p)→vs.length=cs'.length∧∀ (j:Nat) (d:D) (u:Value),cs'[j]? = some d→vs[j]? = some u→RepC w (okA κ B w) d u
 | [],cs',vs,ps,h,hl,_,_=>by
  simp only [closeA,Option.some.injEq,Prod.mk.injEq] at h
  obtain ⟨rfl,rfl⟩:=h
  exact ⟨hl,fun j d u h=>by simp at h⟩
 | d::r,cs',vs,ps,h,hl,hd,hp=>by
  simp only [closeA] at h
  split at h
  ·rename_i d' p r' q h1 h2
   simp only [Option.some.injEq,Prod.mk.injEq] at h
   obtain ⟨rfl,rfl⟩:=h
   cases vs with
   | nil=>simp at hl
   | cons u us =>
    obtain ⟨q1,q2⟩:=closeA_rep hI (vs:=us) h2 (by simpa using hl) (fun j d u a b=>hd (j+1) d u a b) fun p hp'=>hp p (List.mem_append_right _ hp')
    refine ⟨by simp [q1],fun j d u h3 h4 => ?_⟩
    cases j with
    | zero =>
     simp only [List.getElem?_cons_zero,Option.some.injEq] at h3 h4
     subst h3 h4
     exact closeD_rep hI (hd 0 _ _ rfl rfl) h1 fun p hp'=>hp p (List.mem_append_left _ hp')
    | succ j=>exact q2 j d u (by simpa using h3) (by simpa using h4)
  ·cases h
theorem borrow_core (hI:Inv κ B ρ s N a w) (hp:PT a A) (hc:callD P s A o=some (f,ds0)) (hcl:closeA { s with fx:=0 } ds0=some (ds,ps)) (hps:andL ps) (hG:s.gl=G) {R:D→Prop} (hpc:PC P G f ds R) (hR:∀ d,R d→∃ x,d = .v x) :
  ∃ vs:List Value,(execOp a.eval o).run P w = .ok (.enter f vs.toArray) w∧Calls P f vs.toArray w fun e w'=>∃ x,e = .returned x∧R (.v x)∧Below w.heap.size w w':=by
 obtain ⟨vs,h1,h2,h3⟩:=run_call hI hp hc
 have hW:=hI.wide
 obtain ⟨q1,q2⟩:=closeA_rep hW hcl h2 (fun j d u k1 k2=>(h3 j d u k1 k2).keep fun g hg=>⟨⟨trivial,hg.1.2⟩,hg.2⟩) (andL_all hps)
 refine ⟨vs,h1,(hpc (okA (fun _=>True) ⟨0,[],0⟩ w) w vs (fun g hg=>hg.1.2) (fun y hy=>(hI.gl y (by rw [hG]; exact hy)).mono fun g hg=>⟨⟨⟨trivial,hg.1.2⟩,fun ⟨i,x,_,h,_⟩=>by simp at h⟩,rfl⟩) q1 q2).mono ?_⟩
 rintro e w' ⟨v,d,rfl,hr,hrep,hb⟩
 obtain ⟨x,rfl⟩:=hR d hr
 have e:v=x:=by cases hrep; rfl
 exact ⟨x,by rw [e],hr,hb⟩
theorem PL.borrow (hA:gpath ops s o=some []) (hd:dstB N [] o.dst=true) (hc:callD P s [] o=some (f,ds0)) (hcl:closeA { s with fx:=0 } ds0=some (ds,ps)) (hps:andL ps) (hG:s.gl=G) {R:D→Prop} (hpc:PC P G f ds R) (hR:∀ d,R d→∃ x,d = .v x) (k:∀ d,R d→PL P N ops rest Q (s.put o.dst [] d)):PL P N ops (o::rest) Q s:=fun κ B ρ a w0 w hI hb0=>by
 obtain ⟨vs,h1,h2⟩:=borrow_core hI pt_nil hc hcl hps hG hpc hR
 refine BigFrame.wpList_want (gpath_nil hI hA) fun K hK => ?_
 unfold Oper.wp
 rw [h1,Oper.upon_enter]
 refine h2.mono ?_
 rintro e w' ⟨x,rfl,hr,hb⟩
 exact hK _ _ (k _ hr κ B ρ _ w0 w' (inv_put (hI.later hb) hd (fun _ => .one (.c (.v _))) fun h=>absurd pt_nil h) (hb0.trans (BelB.of_below hb hI.big)))
theorem PO1.borrow (ho:ops[i]? = some o) (hA:gpath ops s o=some []) (hd:dstB N [] o.dst=true) (hc:callD P s [] o=some (f,ds0)) (hcl:closeA { s with fx:=0 } ds0=some (ds,ps)) (hps:andL ps) (hG:s.gl=G) {R:D→Prop} (hpc:PC P G f ds R) (hR:∀ d,R d→∃ x,d = .v x) (k:∀ d,R d→PO P N ops hs n (listed.setIfInBounds i true) Q (s.put o.dst [] d)):PO1 P N ops hs n listed Q s i:=fun κ B ρ a w0 w hI hb0=>by
 obtain ⟨vs,h1,h2⟩:=borrow_core hI pt_nil hc hcl hps hG hpc hR
 refine wpOp_of ho (BigFrame.wpList_want (gpath_nil hI hA) fun K hK => ?_)
 unfold Oper.wp
 rw [h1,Oper.upon_enter]
 refine h2.mono ?_
 rintro e w' ⟨x,rfl,hr,hb⟩
 have hT:([]:List Nat).all (fun b=>hs.contains b)=true:=rfl
 have hfr:Fr [] ρ w ρ w':=Fr.later _ hb
 exact hK _ _ ⟨hfr.agree hT hb.size,wpAnyH_monoS (hfr.agrees hT hb.size) _ _ _ _ (k _ hr κ B ρ _ w0 w' (inv_put (hI.later hb) hd (fun _ => .one (.c (.v _))) fun h=>absurd pt_nil h) (hb0.trans (BelB.of_below hb hI.big)))⟩
theorem PO.eq (h:s=s') (k:PO P N ops hs n listed Q s'):PO P N ops hs n listed Q s:=h▸k
theorem PO.sel (dl:List Nat) (mm:Nat) (hs1:s.sel dl mm=s') (hu:s'.underB mm=true) (h:PO P N ops hs n listed Q s'):PO P N ops hs n listed Q s:=fun κ B ρ a w0 w hI hb=>by
 subst hs1
 exact wpAnyH_monoS (fun u hA=>⟨hA.size,fun k hk hn=>hA.block k hk fun ⟨b,hb,c,hc⟩=>hn ⟨b,hb,c,(take_get hc).1⟩⟩) _ _ _ _ (h κ B _ a w0 w (hI.sel dl mm hu) hb)
def St.bornC (s:St) (b j:Nat) (t0:TypeId) (cs:List D) (t:TypeId) (z:Nat):St:={ s with mem:=(s.mem++[Obj.row t z 0 fun _=>[]]).set b (Obj.var t0 (cs.set j (.h s.mem.length 0))) }
theorem Inv.bornC (hI:Inv κ B ρ s N a w) {b j:Nat} {t0:TypeId} {cs:List D} (t:TypeId) (z:Nat) (hm:s.mem[b]? = some (.var t0 cs)) (hj:cs[j]? = some (.v (.slice none 0 0))):Inv κ B (ρ ++ [none]) (s.bornC b j t0 cs t z) N a w:=by
 have hI2:=inv_new hI (Below.refl _ _) (x:=none) (ob := .row t z 0 fun _=>[]) (fun y hy=>by cases hy) (.inl ⟨by simp,rfl⟩)
 have hbl:=(List.getElem?_eq_some_iff.1 hm).1
 obtain ⟨g,vs,r1,r2,r3,r4⟩:=hI2.mem b (.var t0 cs) (by show (s.mem++[_])[b]? = _; rw [List.getElem?_append_left hbl]; exact hm)
 refine hI2.setObj (b:=b) (ob := .var t0 (cs.set j (.h s.mem.length 0))) ⟨g,vs,by rw [List.length_set]; exact r1,r2,by rw [List.length_set]; exact r3,fun i d v q1 q2 => ?_⟩
 by_cases hij:i=j
 ·subst hij
  rw [List.getElem?_set_self (List.getElem?_eq_some_iff.1 hj).1] at q1
  injection q1 with q1
  subst q1
  have:=r4 i _ v hj q2
  cases this with
  | c h=>cases h; exact .h0 (by rw [← hI.len]; simp)
 ·rw [List.getElem?_set_ne (Ne.symm hij)] at q1
  exact r4 i d v q1 q2
theorem PW.bornC (b j:Nat) (t:TypeId) (z:Nat) {t0:TypeId} {cs:List D} (hm:s.mem[b]? = some (.var t0 cs)) (hj:cs[j]? = some (.v (.slice none 0 0))) (he:s.bornC b j t0 cs t z=s') (h:PW P N c Q s'):PW P N c Q s:=fun κ B ρ a w hI=>by
 subst he
 exact h κ B _ a w (hI.bornC t z hm hj)
end
end Go.Proofs.Ytkhdnlkdcikdmaa.Dp
namespace Go.Proofs.Ytkhdnlkdcikdmaa.Dp
open Go.RowKit Go.Proofs.Ytkhdnlkdcikdmaa.Sm
open Go.Proofs.Ytkhdnlkdcikdmaa.Ev (Obl opnds dstB PT nx pt_put undef_bool pickB isRow_false seenL seenR seen_all resRun)
set_option maxHeartbeats 1000000
set_option linter.unusedVariables false
section
variable {κ : Nat→Prop} {B:Base} {N:Nat} {ρ : Own} {s s':St} {a:Act} {w:World} {ops:Array Oper} {rest:List Oper} {o:Oper} {Q:Exit→St→Prop} {A:List (Nat×Bool)} {P:Program}
theorem div_run (hI:Inv κ B ρ s N a w) {bop:BinOp} {k:IntKind} {m n r:Int} {x y:Operand} {t ty:TypeId} (hb:(bop = .quo∧r=k.wrap (m.tdiv n))∨(bop = .rem∧r=m.tmod n)) (hop:o.op = .binOp bop t x y ty) (hx:s.look A x=some (.v (.int k m))) (hy:s.look A y=some (.v (.int k n))) (hn:n≠0) (hpt:PT a A):∃ v,(execOp a.eval o).run P w = .ok (.value v) w∧RepO w (okW κ w ρ) ρ (.v (.int k r)) v:=by
 have ex:=repO_v (look_rep hI hx hpt)
 have ey:=repO_v (look_rep hI hy hpt)
 refine ⟨.int k r,?_,.one (.c (.v _))⟩
 unfold execOp
 simp only [hop,Sem.run_bind,ex,ey]
 rcases hb with ⟨rfl,rfl⟩|⟨rfl,rfl⟩
 ·have hg:(eqGuard .quo t x y (.int k m) (.int k n)).run P w = .ok () w:=rfl
  have h2:(binOp .quo t (.int k m) (.int k n)).run P w = .ok (.int k (k.wrap (m.tdiv n))) w:=by
   simp only [binOp,ne_eq,not_true_eq_false,if_false,Op.intDiv,hn]
   rfl
  rw [hg,Result.andThen_ok,h2,Result.andThen_ok,Sem.run_pure]
 ·have hg:(eqGuard .rem t x y (.int k m) (.int k n)).run P w = .ok () w:=rfl
  have h2:(binOp .rem t (.int k m) (.int k n)).run P w = .ok (.int k (m.tmod n)) w:=by
   simp only [binOp,ne_eq,not_true_eq_false,if_false,Op.intDiv,hn]
   rfl
  rw [hg,Result.andThen_ok,h2,Result.andThen_ok,Sem.run_pure]
theorem PL.div {bop:BinOp} {k:IntKind} (m n r:Int) {x y:Operand} {t ty:TypeId} (hop:o.op = .binOp bop t x y ty) (hb:(bop = .quo∧r=k.wrap (m.tdiv n))∨(bop = .rem∧r=m.tmod n)) (hA:gpath ops s o=some A) (hcl:closedB s A=true) (hd:dstB N A o.dst=true) (hx:s.look A x=some (.v (.int k m))) (hy:s.look A y=some (.v (.int k n))) (hn:pathP s A→n≠0) (h:PL P N ops rest Q (s.put o.dst A (.v (.int k r)))):PL P N ops (o::rest) Q s:=fun κ B ρ a w0 w hI hb0 =>
 val_step hI hA hd _ (fun hpt=>div_run hI hb hop hx hy (hn (path_of hI (closedB_of hcl) hpt)) hpt) fun a' hI'=>h κ B ρ a' w0 w hI' hb0
theorem PO1.div {hs:List Nat} {u i:Nat} {listed:Array Bool} {bop:BinOp} {k:IntKind} (m n r:Int) {x y:Operand} {t ty:TypeId} (ho:ops[i]? = some o) (hop:o.op = .binOp bop t x y ty) (hb:(bop = .quo∧r=k.wrap (m.tdiv n))∨(bop = .rem∧r=m.tmod n)) (hA:gpath ops s o=some A) (hcl:closedB s A=true) (hd:dstB N A o.dst=true) (hx:s.look A x=some (.v (.int k m))) (hy:s.look A y=some (.v (.int k n))) (hn:pathP s A→n≠0) (h:PO P N ops hs u (listed.setIfInBounds i true) Q (s.put o.dst A (.v (.int k r)))):PO1 P N ops hs u listed Q s i:=fun κ B ρ a w0 w hI hb0=>by
 refine wpOp_of ho (val_step hI hA hd _ (fun hpt=>div_run hI hb hop hx hy (hn (path_of hI (closedB_of hcl) hpt)) hpt) fun a' hI' => ?_)
 exact ⟨Agree.refl _ _ _,h κ B ρ a' w0 w hI' hb0⟩
theorem RepC.renil {ok:Nat→Prop} {cs:List D} {i z:Nat} {f:Nat→List D} {v:Value} (h:RepC w ok (.r cs) v) (hi:cs[i]? = some (.v (.slice none 0 0))):RepC w ok (.r (cs.set i (.s 0 z f))) v:=by
 cases h with
 | r hl hd =>
  refine .r (by simpa using hl) fun j d u h1 h2 => ?_
  by_cases hj:i=j
  ·subst hj
   rw [List.getElem?_set_self (List.getElem?_eq_some_iff.1 hi).1] at h1
   injection h1 with h1
   subst h1
   have:=hd i _ u hi h2
   cases this
   exact .s0 z f none 0 (fun _=>rfl) (Nat.zero_le _)
  ·rw [List.getElem?_set_ne hj] at h1
   exact hd j d u h1 h2
theorem PC.renil {G:List (Nat×List D)} {f:FuncId} {ds cs:List D} (i z:Nat) (g:Nat→List D) (h:PC P G f ds (· = .r cs)) (hi:cs[i]? = some (.v (.slice none 0 0))):PC P G f ds (· = .r (cs.set i (.s 0 z g))):=fun κ w vs h1 h2 h3 h4=>(h κ w vs h1 h2 h3 h4).mono (by
 rintro e w' ⟨v,d,rfl,rfl,k2,k3⟩
 exact ⟨v,_,rfl,rfl,k2.renil hi,k3⟩)
def JoinR {α : Type} (st : α → St) (I : α → Prop) (ds:List Nat) (m:Nat) (s':St):Prop:=∃ x' s1,s'.sel ds m=s1∧s1.underB m=true∧Rem s1 (st x')∧I x'
theorem JoinR.of {α : Type} {st : α → St} {I : α → Prop} {ds:List Nat} {m:Nat} {s1:St} (x' : α) (h:s'.sel ds m=s1) (hu:s1.underB m=true) (hs:Rem s1 (st x')) (hI:I x'):JoinR st I ds m s':=⟨x',s1,h,hu,hs,hI⟩
theorem PW.join {α : Type} {x y:Code} (st : α → St) (I : α → Prop) (ds:List Nat) (m:Nat) (hy:∀ z,I z→PW P N y Q (st z)) (hx:PW P N x (thenD (JoinR st I ds m) Q) s):PW P N (.seq x y) Q s:=by
 refine PW.seq (PW.mono hx fun e s1 h => ?_)
 cases e with
 | normal =>
  obtain ⟨z,s2,h1,h2,h3,h4⟩:=h
  exact PW.sel ds m h1 h2 (PW.rem h3 (hy z h4))
 | _=>exact h
theorem Inv.forget (hI:Inv κ B ρ s N a w) {b:Nat} {t:TypeId} {cs:List D} (hm:s.mem[b]? = some (.var t cs)):Inv κ B ρ (s.setMem b (.var t (cs.map fun _ => .any))) N a w:=by
 obtain ⟨g,vs,r1,r2,r3,r4⟩:=hI.mem b _ hm
 refine hI.setObj (b:=b) (ob := .var t (cs.map fun _ => .any)) ⟨g,vs,by rw [List.length_map]; exact r1,r2,by rw [List.length_map]; exact r3,fun j d v q1 q2 => ?_⟩
 rw [List.getElem?_map] at q1
 obtain ⟨d0, -, rfl⟩:=Option.map_eq_some_iff.1 q1
 exact .c (.any v)
theorem PL.forget (b:Nat) {t:TypeId} {cs:List D} (hm:s.mem[b]? = some (.var t cs)) (he:s.setMem b (.var t (cs.map fun _ => .any))=s') (h:PL P N ops rest Q s'):PL P N ops rest Q s:=fun κ B ρ a w0 w hI hb=>by
 subst he
 exact h κ B ρ a w0 w (hI.forget hm) hb
theorem PK.more {G:List (Nat×List D)} {f:FuncId} {ds:List D} {mem:List Obj} {k:Nat} {R:D→List Obj→Prop} (h:PK P [] f ds mem k R):PK P G f ds mem k R:=fun κ w ρ vs h1 h2 _ h4 h5=>h κ w ρ vs h1 h2 (fun x hx=>(nomatch hx)) h4 h5
theorem PI.more {G:List (Nat×List D)} {f:FuncId} {ds:List D} {mem:List Obj} {R:D→List Obj→Prop} (h:PI P [] f ds mem R):PI P G f ds mem R:=fun κ w ρ vs h1 h2 _ h4 h5=>h κ w ρ vs h1 h2 (fun x hx=>(nomatch hx)) h4 h5
def vsOnly:List D→Bool
 | []=>true
 | .v _::r=>vsOnly r
 | _=>false
def D.plain:D→Bool
 | .v _=>true
 | .t cs=>vsOnly cs
 | .r cs=>vsOnly cs
 | _=>false
theorem vsOnly_get:∀ {cs:List D},vsOnly cs=true→∀ (j:Nat) (d:D),cs[j]? = some d→∃ x,d = .v x
 | [],_,j,d,h=>by simp at h
 | c::r,hv,j,d,h=>by
  cases c with
  | v x =>
   cases j with
   | zero=>simp at h; exact ⟨x,h.symm⟩
   | succ j=>exact vsOnly_get (cs:=r) hv j d (by simpa using h)
  | _=>cases hv
theorem RepC.plain {w w':World} {ok ok':Nat→Prop} {d:D} {v:Value} (h:RepC w ok d v) (hp:d.plain=true):RepC w' ok' d v:=by
 cases h with
 | v=>exact .v _
 | r hl hd =>
  refine .r hl fun j d v h1 h2 => ?_
  obtain ⟨x,rfl⟩:=vsOnly_get hp j d h1
  have:=hd j _ v h1 h2
  cases this
  exact .v _
 | t hl hd =>
  refine .t hl fun j d v h1 h2 => ?_
  obtain ⟨x,rfl⟩:=vsOnly_get hp j d h1
  have:=hd j _ v h1 h2
  cases this
  exact .v _
 | _=>cases hp
theorem borrowT_core {G:List (Nat×List D)} {f:FuncId} {ds ds0:List D} {ps:List Prop} (hI:Inv κ B ρ s N a w) (hp:PT a A) (hc:callD P s A o=some (f,ds0)) (hcl:closeA { s with fx:=0 } ds0=some (ds,ps)) (hps:andL ps) (hG:s.gl=G) {R:D→Prop} (hpc:PC P G f ds R) (hR:∀ d,R d→d.plain=true) :
  ∃ vs:List Value,(execOp a.eval o).run P w = .ok (.enter f vs.toArray) w∧Calls P f vs.toArray w fun e w'=>∃ v d,e = .returned v∧R d∧(∀ w ok,RepC w ok d v)∧Below w.heap.size w w':=by
 obtain ⟨vs,h1,h2,h3⟩:=run_call hI hp hc
 have hW:=hI.wide
 obtain ⟨q1,q2⟩:=closeA_rep hW hcl h2 (fun j d u k1 k2=>(h3 j d u k1 k2).keep fun g hg=>⟨⟨trivial,hg.1.2⟩,hg.2⟩) (andL_all hps)
 refine ⟨vs,h1,(hpc (okA (fun _=>True) ⟨0,[],0⟩ w) w vs (fun g hg=>hg.1.2) (fun y hy=>(hI.gl y (by rw [hG]; exact hy)).mono fun g hg=>⟨⟨⟨trivial,hg.1.2⟩,fun ⟨i,x,_,h,_⟩=>by simp at h⟩,rfl⟩) q1 q2).mono ?_⟩
 rintro e w' ⟨v,d,rfl,hr,hrep,hb⟩
 exact ⟨v,d,rfl,hr,fun _ _=>hrep.plain (hR d hr),hb⟩
theorem PL.borrowT {G:List (Nat×List D)} {f:FuncId} {ds ds0:List D} {ps:List Prop} (hA:gpath ops s o=some []) (hd:dstB N [] o.dst=true) (hc:callD P s [] o=some (f,ds0)) (hcl:closeA { s with fx:=0 } ds0=some (ds,ps)) (hps:andL ps) (hG:s.gl=G) {R:D→Prop} (hpc:PC P G f ds R) (hR:∀ d,R d→d.plain=true) (k:∀ d,R d→PL P N ops rest Q (s.put o.dst [] d)):PL P N ops (o::rest) Q s:=fun κ B ρ a w0 w hI hb0=>by
 obtain ⟨vs,h1,h2⟩:=borrowT_core hI pt_nil hc hcl hps hG hpc hR
 refine BigFrame.wpList_want (gpath_nil hI hA) fun K hK => ?_
 unfold Oper.wp
 rw [h1,Oper.upon_enter]
 refine h2.mono ?_
 rintro e w' ⟨v,d,rfl,hr,hrep,hb⟩
 exact hK _ _ (k _ hr κ B ρ _ w0 w' (inv_put (hI.later hb) hd (fun _ => .one (.c (hrep _ _))) fun h=>absurd pt_nil h) (hb0.trans (BelB.of_below hb hI.big)))
end
end Go.Proofs.Ytkhdnlkdcikdmaa.Dp
namespace Go.Proofs.Ytkhdnlkdcikdmaa.Dp
open Go.RowKit Go.Proofs.Ytkhdnlkdcikdmaa.Sm
open Go.Proofs.Ytkhdnlkdcikdmaa.Ev (Obl opnds dstB PT nx pt_put undef_bool pickB isRow_false seenL seenR seen_all resRun takesB after)
set_option maxHeartbeats 1000000
set_option linter.unusedVariables false
section
variable {P:Program} {N:Nat} {ops:Array Oper} {l rest:List Oper} {o:Oper} {Q Q':Exit→St→Prop} {s s':St} {c x y:Code} {hs:List Nat} {i id b:Nat} {listed:Array Bool} {G:List (Nat×List D)} {f:FuncId} {ds0:List D} {d:D} {A:List (Nat×Bool)} {p:Prop}
theorem PL.rw (n:Nat) (ds:List Nat) (m:Nat) (hp:p) (h:PL P N ops (l.drop n) Q ((res P N ops (l.take n) s).sel ds m)) (hk:((steps P default N ops (l.take n) s).isSome,((res P N ops (l.take n) s).sel ds m).underB m,seenL (obs P N ops (l.take n) s),need P N ops (l.take n) s)=(true,true,seenR (obs P N ops (l.take n) s),p):=by kernel_rfl):PL P N ops l Q s:=by
 simp only [Prod.mk.injEq] at hk
 exact PL.row n ds m hk.1 rfl hk.2.1 hk.2.2.1 hk.2.2.2 hp h
theorem PW.sr (ds:List Nat) (m:Nat) (hp:p) (h:PW P N y Q ((res P N ops ops.toList s).sel ds m)) (hk:((steps P default N ops ops.toList s).isSome,((res P N ops ops.toList s).sel ds m).underB m,seenL (obs P N ops ops.toList s),need P N ops ops.toList s)=(true,true,seenR (obs P N ops ops.toList s),p):=by kernel_rfl):PW P N (.seq (.region id ops false) y) Q s:=by
 simp only [Prod.mk.injEq] at hk
 have e:ops.toList.take ops.toList.length=ops.toList:=List.take_length
 refine PW.seq (PW.region (PL.row ops.toList.length ds m (s':=(res P N ops ops.toList s).sel ds m) (p:=p) ?_ ?_ hk.2.1 ?_ ?_ hp ?_))
 ·rw [e]; exact hk.1
 ·rw [e]
 ·rw [e]; exact hk.2.2.1
 ·rw [e]; exact hk.2.2.2
 ·rw [List.drop_length]
  exact PL.nil h
theorem PW.rr (ds:List Nat) (m:Nat) (hp:p) (h:Q .normal ((res P N ops ops.toList s).sel ds m)) (hk:((steps P default N ops ops.toList s).isSome,((res P N ops ops.toList s).sel ds m).underB m,seenL (obs P N ops ops.toList s),need P N ops ops.toList s)=(true,true,seenR (obs P N ops ops.toList s),p):=by kernel_rfl):PW P N (.region id ops false) Q s:=by
 simp only [Prod.mk.injEq] at hk
 have e:ops.toList.take ops.toList.length=ops.toList:=List.take_length
 refine PW.region (PL.row ops.toList.length ds m (s':=(res P N ops ops.toList s).sel ds m) (p:=p) ?_ ?_ hk.2.1 ?_ ?_ hp ?_)
 ·rw [e]; exact hk.1
 ·rw [e]
 ·rw [e]; exact hk.2.2.1
 ·rw [e]; exact hk.2.2.2
 ·rw [List.drop_length]
  exact PL.nil h
theorem PW.sg (h:PL P N ops ops.toList (thenD (PW P N y Q) Q) s):PW P N (.seq (.region id ops false) y) Q s:=PW.seq (PW.region h)
theorem PL.nl (h:PW P N y Q s):PL P N ops [] (thenD (PW P N y Q) Q) s:=PL.nil h
theorem PW.cd (z:Bool) {q:Operand} (ht:z=true→PW P N x Q s) (hf:z=false→PW P N y Q s) (h:s.look [] q=some (.v (.bool z)):=by kernel_rfl):PW P N (.cond q x y) Q s:=PW.cond h ht hf
theorem PL.gc (hpc:pathP s A→PC P G f ds0 (· = d)) (k:PL P N ops rest Q (s.put o.dst A d)) (hk:(gpath ops s o,closedB s A,dstB N A o.dst,callD P s A o,shuts ds0,s.gl)=(some A,true,true,some (f,ds0),true,G):=by kernel_rfl):PL P N ops (o::rest) Q s:=by
 simp only [Prod.mk.injEq] at hk
 exact PL.gcall hk.1 hk.2.1 hk.2.2.1 hk.2.2.2.1 hk.2.2.2.2.1 hk.2.2.2.2.2 d hpc k
theorem PO1.gc (o:Oper) (hpc:pathP s A→PC P G f ds0 (· = d)) {n:Nat} (k:PO P N ops hs n (listed.setIfInBounds i true) Q (s.put o.dst A d)) (ho:ops[i]? = some o) (hk:(gpath ops s o,closedB s A,dstB N A o.dst,callD P s A o,shuts ds0,s.gl)=(some A,true,true,some (f,ds0),true,G):=by kernel_rfl):PO1 P N ops hs n listed Q s i:=by
 simp only [Prod.mk.injEq] at hk
 exact PO1.gcall ho hk.1 hk.2.1 hk.2.2.1 hk.2.2.2.1 hk.2.2.2.2.1 hk.2.2.2.2.2 d hpc k
theorem PL.sl (ds:List Nat) (m:Nat) (h:PL P N ops l Q (s.sel ds m)) (hk:(s.sel ds m).underB m=true:=by kernel_rfl):PL P N ops l Q s:=PL.sel ds m rfl hk h
theorem PO.tk (l:List Nat) (m:Nat) (dl:List Nat) (n:Nat) (hp:p) (hnp:NoPanic Q) (h:PO P N ops hs n (after l listed) Q ((ires P N ops hs l s).sel dl s.mem.length)) (hk:(Region.noSelect ops,m,takesB ops l listed,(isteps P default N ops hs l s).isSome,((ires P N ops hs l s).sel dl s.mem.length).underB s.mem.length,seenL (iobs P N ops hs l s),ineed P N ops hs l s)=(true,n+l.length,true,true,true,seenR (iobs P N ops hs l s),p):=by kernel_rfl):PO P N ops hs m listed Q s:=by
 simp only [Prod.mk.injEq] at hk
 exact PO.takes l m dl s.mem.length hk.1 hnp hk.2.1 hk.2.2.1 hk.2.2.2.1 rfl hk.2.2.2.2.1 rfl hk.2.2.2.2.2.1 hk.2.2.2.2.2.2 hp h
noncomputable def mres (P:Program) (s:St) (o:Oper):St:=((memD P default s o).getD (s,[],[])).1
theorem PO1.mm {o:Oper} (ho:ops[i]? = some o) (dl:List Nat) (mm:Nat) (hp:p) {n:Nat} (h:PO P N ops hs n (listed.setIfInBounds i true) Q ((mres P s o).sel dl mm)) (hk:(gpath ops s o,dstB N [] o.dst,(touch s o).all (fun b=>hs.contains b),(memD P default s o).isSome,((mres P s o).sel dl mm).underB mm,(mres P s o).mem.length,seenL ((memD P default s o).getD (s,[],[])).2.1,andL ((memD P default s o).getD (s,[],[])).2.2)=(some [],true,true,true,true,mm,seenR ((memD P default s o).getD (s,[],[])).2.1,p):=by kernel_rfl):PO1 P N ops hs n listed Q s i:=by
 simp only [Prod.mk.injEq] at hk
 exact PO1.mem dl mm ho hk.1 hk.2.1 hk.2.2.1 hk.2.2.2.1 rfl hk.2.2.2.2.1 hk.2.2.2.2.2.1 hk.2.2.2.2.2.2.1 hk.2.2.2.2.2.2.2 hp h
theorem PL.rm (b:Nat) {t:TypeId} {z n:Nat} (f0 f1:Nat→List D) (hf:∀ i,i<n→f0 i=f1 i) (h:PL P N ops l Q (s.setMem b (.row t z n f1))) (hk:s.mem[b]? = some (.row t z n f0):=by kernel_rfl):PL P N ops l Q s:=PL.remem hk hf h
theorem PO.rm (b:Nat) {t:TypeId} {z n:Nat} (f0 f1:Nat→List D) (hf:∀ i,i<n→f0 i=f1 i) {k:Nat} (h:PO P N ops hs k listed Q (s.setMem b (.row t z n f1))) (hk:s.mem[b]? = some (.row t z n f0):=by kernel_rfl):PO P N ops hs k listed Q s:=fun κ B ρ a w0 w hI hb=>h κ B ρ a w0 w (hI.remem hk hf) hb
theorem Rem.of_eq (h:s=s':=by kernel_rfl):Rem s s':=h▸Rem.refl s
theorem PW.lp {α : Type} (st : α → St) (I : α → Prop) (μ : α → Nat) (ds:List Nat) (m:Nat) (x0 : α) (hI0:I x0) (round:∀ x,I x→PW P N c (thenD (BackR st I μ ds m (μ x)) Q) (st x)) (hk:(s.sel ds m,(s.sel ds m).underB m)=(st x0,true):=by kernel_rfl):PW P N (.loop c) Q s:=by
 simp only [Prod.mk.injEq] at hk
 exact PW.loopR st I μ ds m x0 rfl hk.2 (hk.1▸Rem.refl _) hI0 round
theorem BackR.k {α : Type} {st : α → St} {I : α → Prop} {μ : α → Nat} {ds:List Nat} {m n:Nat} (x' : α) (hI:I x') (hμ : μ x'<n) (hk:(s'.sel ds m,(s'.sel ds m).underB m)=(st x',true):=by kernel_rfl):BackR st I μ ds m n s':=by
 simp only [Prod.mk.injEq] at hk
 exact BackR.of x' rfl hk.2 (hk.1▸Rem.refl _) hI hμ
theorem PL.fz (b:Nat) {t:TypeId} (cs:List D) (h:PL P N ops l Q (s.frz b cs)) (hk:(s.mem[b]?,cs.all D.shut,decide (s.fx≤b))=(some (.var t cs),true,true):=by kernel_rfl):PL P N ops l Q s:=by
 simp only [Prod.mk.injEq,decide_eq_true_eq] at hk
 exact PL.frz b hk.1 hk.2.1 hk.2.2 rfl h
theorem PL.mk {cap:Array Operand} (cs:List D) (h:PL P N ops rest Q (s.put o.dst [] (.c f cs))) (hk:(o.op,gpath ops s o,dstB N [] o.dst,looksA s [] cap.toList,cs.all D.shut)=(.makeFunc (.func f) #[] cap,some [],true,some cs,true):=by kernel_rfl):PL P N ops (o::rest) Q s:=fun κ B ρ a w0 w hI hb0=>by
 simp only [Prod.mk.injEq] at hk
 obtain ⟨hop,hA,hd,hl,hsh⟩:=hk
 refine val_step hI hA hd (.c f cs) (fun hp => ?_) fun a' hI'=>h κ B ρ a' w0 w hI' hb0
 obtain ⟨q1,q2⟩:=looksA_rep hI hp hl
 refine ⟨.func (.func f) #[] (cap.toList.map a.eval).toArray,?_,?_⟩
 ·unfold execOp
  simp only [hop,Instr.makeFunc,Sem.run_bind,Sem.run_pure,Result.andThen_ok]
  have e:cap.map a.eval=(cap.toList.map a.eval).toArray:=by rw [← Array.toList_map]
  rw [e,show (#[]:Array Operand).map a.eval = #[] from Array.map_empty]
 ·refine .one (.c (.c q1 fun j d v h1 h2 => ?_))
  have hds:=List.all_eq_true.1 hsh d (List.mem_of_getElem? h1)
  exact shut_rep (by cases d <;> first|rfl|cases hds) (q2 j d v h1 h2)
def D.slot1:D→Bool
 | .any=>false
 | .r _=>false
 | .k _ _=>false
 | _=>true
theorem rep1_of {w:World} {ρ : Own} {ok:Nat→Prop} {d:D} {v:Value} (h:RepO w ok ρ d v) (hs:d.slot1=true):Rep1 w ok ρ d v:=by
 cases h with
 | one h=>exact h
 | r hl hd=>cases hs
 | k hl hd=>cases hs
theorem PL.mkK {cap:Array Operand} (cs:List D) (h:PL P N ops rest Q (s.put o.dst [] (.k f cs))) (hk:(o.op,gpath ops s o,dstB N [] o.dst,looksA s [] cap.toList,cs.all D.slot1)=(.makeFunc (.func f) #[] cap,some [],true,some cs,true):=by kernel_rfl):PL P N ops (o::rest) Q s:=fun κ B ρ a w0 w hI hb0=>by
 simp only [Prod.mk.injEq] at hk
 obtain ⟨hop,hA,hd,hl,hsh⟩:=hk
 refine val_step hI hA hd (.k f cs) (fun hp => ?_) fun a' hI'=>h κ B ρ a' w0 w hI' hb0
 obtain ⟨q1,q2⟩:=looksA_rep hI hp hl
 refine ⟨.func (.func f) #[] (cap.toList.map a.eval).toArray,?_,?_⟩
 ·unfold execOp
  simp only [hop,Instr.makeFunc,Sem.run_bind,Sem.run_pure,Result.andThen_ok]
  have e:cap.map a.eval=(cap.toList.map a.eval).toArray:=by rw [← Array.toList_map]
  rw [e,show (#[]:Array Operand).map a.eval = #[] from Array.map_empty]
 ·exact .k q1 fun j d v h1 h2=>rep1_of (q2 j d v h1 h2) (List.all_eq_true.1 hsh d (List.mem_of_getElem? h1))
theorem PL.bo {ds:List D} {ps:List Prop} (hps:andL ps) (hpc:PC P G f ds (· = d)) (k:PL P N ops rest Q (s.put o.dst [] d)) (hk:(gpath ops s o,dstB N [] o.dst,(callD P s [] o).bind (fun x=>(closeA { s with fx:=0 } x.2).map fun y=>(x.1,y)),s.gl,d.plain)=(some [],true,some (f,ds,ps),G,true):=by kernel_rfl):PL P N ops (o::rest) Q s:=by
 simp only [Prod.mk.injEq] at hk
 obtain ⟨hA,hd,hc,hG,hpl⟩:=hk
 obtain ⟨⟨f',ds0⟩,h1,h2⟩:=Option.bind_eq_some_iff.1 hc
 obtain ⟨y,h3,h4⟩:=Option.map_eq_some_iff.1 h2
 simp only [Prod.mk.injEq] at h4
 obtain ⟨rfl,rfl⟩:=h4
 refine PL.borrowT hA hd h1 h3 hps hG hpc (fun d' h=>by subst h; exact hpl) ?_
 rintro _ rfl
 exact k
theorem PO1.borrowT {ds ds0:List D} {ps:List Prop} {n:Nat} (ho:ops[i]? = some o) (hA:gpath ops s o=some []) (hd:dstB N [] o.dst=true) (hc:callD P s [] o=some (f,ds0)) (hcl:closeA { s with fx:=0 } ds0=some (ds,ps)) (hps:andL ps) (hG:s.gl=G) {R:D→Prop} (hpc:PC P G f ds R) (hR:∀ d,R d→d.plain=true) (k:∀ d,R d→PO P N ops hs n (listed.setIfInBounds i true) Q (s.put o.dst [] d)):PO1 P N ops hs n listed Q s i:=fun κ B ρ a w0 w hI hb0=>by
 obtain ⟨vs,h1,h2⟩:=borrowT_core hI pt_nil hc hcl hps hG hpc hR
 refine wpOp_of ho (BigFrame.wpList_want (gpath_nil hI hA) fun K hK => ?_)
 unfold Oper.wp
 rw [h1,Oper.upon_enter]
 refine h2.mono ?_
 rintro e w' ⟨v,d,rfl,hr,hrep,hb⟩
 have hT:([]:List Nat).all (fun b=>hs.contains b)=true:=rfl
 have hfr:Fr [] ρ w ρ w':=Fr.later _ hb
 exact hK _ _ ⟨hfr.agree hT hb.size,wpAnyH_monoS (hfr.agrees hT hb.size) _ _ _ _ (k _ hr κ B ρ _ w0 w' (inv_put (hI.later hb) hd (fun _ => .one (.c (hrep _ _))) fun h=>absurd pt_nil h) (hb0.trans (BelB.of_below hb hI.big)))⟩
theorem PO1.bo (o:Oper) {ds:List D} {ps:List Prop} {n:Nat} (hps:andL ps) (hpc:PC P G f ds (· = d)) (k:PO P N ops hs n (listed.setIfInBounds i true) Q (s.put o.dst [] d)) (ho:ops[i]? = some o) (hk:(gpath ops s o,dstB N [] o.dst,(callD P s [] o).bind (fun x=>(closeA { s with fx:=0 } x.2).map fun y=>(x.1,y)),s.gl,d.plain)=(some [],true,some (f,ds,ps),G,true):=by kernel_rfl):PO1 P N ops hs n listed Q s i:=by
 simp only [Prod.mk.injEq] at hk
 obtain ⟨hA,hd,hc,hG,hpl⟩:=hk
 obtain ⟨⟨f',ds0⟩,h1,h2⟩:=Option.bind_eq_some_iff.1 hc
 obtain ⟨y,h3,h4⟩:=Option.map_eq_some_iff.1 h2
 simp only [Prod.mk.injEq] at h4
 obtain ⟨rfl,rfl⟩:=h4
 refine PO1.borrowT ho hA hd h1 h3 hps hG hpc (fun d' h=>by subst h; exact hpl) ?_
 rintro _ rfl
 exact k
theorem PL.ci {ds:List D} {mem:List Obj} {R:D→List Obj→Prop} (hpi:PI P G f ds mem R) (k:∀ d mem',R d mem'→PL P N ops rest Q ({ s with mem:=mem' }.put o.dst [] d)) (hk:(gpath ops s o,dstB N [] o.dst,callD P s [] o,s.mem,s.gl)=(some [],true,some (f,ds),mem,G):=by kernel_rfl):PL P N ops (o::rest) Q s:=by
 simp only [Prod.mk.injEq] at hk
 exact PL.callI hk.1 hk.2.1 hk.2.2.1 hk.2.2.2.1 hk.2.2.2.2 hpi k
theorem PL.ck {ds:List D} {mem:List Obj} {k0:Nat} {R:D→List Obj→Prop} (hpk:PK P G f ds mem k0 R) (k:∀ d mem',R d mem'→PL P N ops rest Q ({ s with mem:=mem' }.put o.dst [] d)) (hk:(gpath ops s o,dstB N [] o.dst,callD P s [] o,s.mem,s.gl,s.tab.all (fun e=>e.dv.under k0),decide (s.fx≤k0))=(some [],true,some (f,ds),mem,G,true,true):=by kernel_rfl):PL P N ops (o::rest) Q s:=by
 simp only [Prod.mk.injEq,decide_eq_true_eq] at hk
 exact PL.callK hk.1 hk.2.1 hk.2.2.1 hk.2.2.2.1 hk.2.2.2.2.1 hk.2.2.2.2.2.1 hk.2.2.2.2.2.2 hpk k
theorem PO1.ci (o:Oper) {ds:List D} {mem:List Obj} {n:Nat} {R:D→List Obj→Prop} (hpi:PI P G f ds mem R) (k:∀ d mem',R d mem'→PO P N ops hs n (listed.setIfInBounds i true) Q ({ s with mem:=mem' }.put o.dst [] d)) (ho:ops[i]? = some o) (hk:(gpath ops s o,dstB N [] o.dst,callD P s [] o,s.mem,s.gl,(List.range mem.length).all (fun b=>hs.contains b))=(some [],true,some (f,ds),mem,G,true):=by kernel_rfl):PO1 P N ops hs n listed Q s i:=by
 simp only [Prod.mk.injEq] at hk
 exact PO1.callI ho hk.1 hk.2.1 hk.2.2.1 hk.2.2.2.1 hk.2.2.2.2.1 hk.2.2.2.2.2 hpi k
theorem PL.cl {ds:List D} {R:D→Prop} (hpc:PC P G f ds R) (k:∀ d,R d→PL P N ops rest Q (s.put o.dst [] d)) (hk:(gpath ops s o,dstB N [] o.dst,callD P s [] o,shuts ds,s.gl)=(some [],true,some (f,ds),true,G):=by kernel_rfl):PL P N ops (o::rest) Q s:=by
 simp only [Prod.mk.injEq] at hk
 exact PL.call hk.1 hk.2.1 hk.2.2.1 hk.2.2.2.1 hk.2.2.2.2 hpc k
theorem PL.cm (b:Nat) {ds:List D} {ob:Obj} {R:D→Obj→Prop} (hpm:PM P G f ds ob R) (k:∀ d ob',R d ob'→PL P N ops rest Q ((s.setMem b ob').put o.dst [] d)) (hk:(gpath ops s o,dstB N [] o.dst,(callD P s [] o).bind (fun x=>(lendL b x.2).map fun y=>(x.1,y)),s.mem[b]?,ob.shutB,s.gl)=(some [],true,some (f,ds),some ob,true,G):=by kernel_rfl):PL P N ops (o::rest) Q s:=by
 simp only [Prod.mk.injEq] at hk
 obtain ⟨hA,hd,hc,hm,hsh,hG⟩:=hk
 obtain ⟨⟨f',ds0⟩,h1,h2⟩:=Option.bind_eq_some_iff.1 hc
 obtain ⟨y,h3,h4⟩:=Option.map_eq_some_iff.1 h2
 simp only [Prod.mk.injEq] at h4
 obtain ⟨rfl,rfl⟩:=h4
 exact PL.callM b hA hd h1 h3 hm hsh hG hpm k
theorem retI_r {rs:List ResultVar} {R:D→List Obj→Prop} {ps:List Prop} {mem:List Obj} (hp:andL ps) (hR:R d mem) (hk:(resI P s rs,s.mem)=(some (d,ps),mem):=by kernel_rfl):retI P rs R .ret s:=by
 simp only [Prod.mk.injEq] at hk
 exact ⟨d,ps,hk.1,hp,hk.2▸hR⟩
theorem retI_n {rs:List ResultVar} {R:D→List Obj→Prop} {ps:List Prop} {mem:List Obj} (hp:andL ps) (hR:R d mem) (hk:(resI P s rs,s.mem)=(some (d,ps),mem):=by kernel_rfl):retI P rs R .normal s:=by
 simp only [Prod.mk.injEq] at hk
 exact ⟨d,ps,hk.1,hp,hk.2▸hR⟩
end
theorem PW.oj {P:Program} {N:Nat} {x y:Code} {Q:Exit→St→Prop} {s:St} (S:St) (hy:PW P N y Q S) (hx:PW P N x (thenD (fun s'=>s'=S) Q) s):PW P N (.seq x y) Q s:=by
 refine PW.seq (PW.mono hx fun e s' h => ?_)
 cases e with
 | normal =>
  have h':s'=S:=h
  subst h'
  exact hy
 | _=>exact h
end Go.Proofs.Ytkhdnlkdcikdmaa.Dp
namespace Go.Proofs.Ytkhdnlkdcikdmaa.Dp
open Go.RowKit Go.Proofs.Ytkhdnlkdcikdmaa.Sm
open Go.Proofs.Ytkhdnlkdcikdmaa.Ev (Obl opnds dstB PT nx pt_put undef_bool pickB isRow_false seenL seenR seen_all resRun takesB after)
set_option maxHeartbeats 1000000
set_option linter.unusedVariables false
section
variable {P:Program} {N:Nat} {ops:Array Oper} {l rest:List Oper} {o:Oper} {Q Q':Exit→St→Prop} {s s':St} {c x y z:Code} {hs:List Nat} {i id:Nat} {listed:Array Bool}
theorem PW.a (ds:List Nat) (m:Nat) (h:PW P N y Q ((res P N ops ops.toList s).sel ds m)) (hk:((steps P default N ops ops.toList s).isSome,((res P N ops ops.toList s).sel ds m).underB m,seenL (obs P N ops ops.toList s),need P N ops ops.toList s)=(true,true,seenR (obs P N ops ops.toList s),True):=by kernel_rfl):PW P N (.seq (.region id ops false) y) Q s:=PW.sr ds m trivial h hk
theorem PW.t (ds:List Nat) (m:Nat) (h:Q .ret ((res P N ops ops.toList s).sel ds m)) (hk:((steps P default N ops ops.toList s).isSome,((res P N ops ops.toList s).sel ds m).underB m,seenL (obs P N ops ops.toList s),need P N ops ops.toList s)=(true,true,seenR (obs P N ops ops.toList s),True):=by kernel_rfl):PW P N (.seq (.region id ops false) .ret) Q s:=PW.sr ds m trivial (PW.ret h) hk
theorem PW.q (ds:List Nat) (m:Nat) (h:PW P N y (thenD (PW P N z Q) Q) ((res P N ops ops.toList s).sel ds m)) (hk:((steps P default N ops ops.toList s).isSome,((res P N ops ops.toList s).sel ds m).underB m,seenL (obs P N ops ops.toList s),need P N ops ops.toList s)=(true,true,seenR (obs P N ops ops.toList s),True):=by kernel_rfl):PW P N (.seq (.seq (.region id ops false) y) z) Q s:=PW.seq (PW.sr ds m trivial h hk)
theorem PW.b (ds:List Nat) (m:Nat) (h:Q .normal ((res P N ops ops.toList s).sel ds m)) (hk:((steps P default N ops ops.toList s).isSome,((res P N ops ops.toList s).sel ds m).underB m,seenL (obs P N ops ops.toList s),need P N ops ops.toList s)=(true,true,seenR (obs P N ops ops.toList s),True):=by kernel_rfl):PW P N (.region id ops false) Q s:=PW.rr ds m trivial h hk
theorem PL.a (n:Nat) (ds:List Nat) (m:Nat) (h:PL P N ops (l.drop n) Q ((res P N ops (l.take n) s).sel ds m)) (hk:((steps P default N ops (l.take n) s).isSome,((res P N ops (l.take n) s).sel ds m).underB m,seenL (obs P N ops (l.take n) s),need P N ops (l.take n) s)=(true,true,seenR (obs P N ops (l.take n) s),True):=by kernel_rfl):PL P N ops l Q s:=PL.rw n ds m trivial h hk
theorem PL.n (n:Nat) (ds:List Nat) (m:Nat) (h:PW P N y Q ((res P N ops (l.take n) s).sel ds m)) (hk:((steps P default N ops (l.take n) s).isSome,((res P N ops (l.take n) s).sel ds m).underB m,seenL (obs P N ops (l.take n) s),need P N ops (l.take n) s)=(true,true,seenR (obs P N ops (l.take n) s),True):=by kernel_rfl) (hd:l.drop n=[]:=by kernel_rfl):PL P N ops l (thenD (PW P N y Q) Q) s:=PL.rw n ds m trivial (by rw [hd]; exact PL.nl h) hk
theorem PW.w (n:Nat) (ds:List Nat) (m:Nat) (h:PL P N ops (ops.toList.drop n) (thenD (PW P N y Q) Q) ((res P N ops (ops.toList.take n) s).sel ds m)) (hk:((steps P default N ops (ops.toList.take n) s).isSome,((res P N ops (ops.toList.take n) s).sel ds m).underB m,seenL (obs P N ops (ops.toList.take n) s),need P N ops (ops.toList.take n) s)=(true,true,seenR (obs P N ops (ops.toList.take n) s),True):=by kernel_rfl):PW P N (.seq (.region id ops false) y) Q s:=PW.sg (PL.rw n ds m trivial h hk)
theorem PW.k (h:PW P N y Q' s) (e:Q .normal s=PW P N y Q' s:=by rfl):PW P N .skip Q s:=PW.skip (e.symm▸h)
theorem PW.e (h:PW P N y Q' s) (e:Q (.exit id) s=PW P N y Q' s:=by rfl):PW P N (.exit id) Q s:=PW.exit (e.symm▸h)
theorem PO.a (l:List Nat) (m:Nat) (dl:List Nat) (n:Nat) (h:PO P N ops hs n (after l listed) Q ((ires P N ops hs l s).sel dl s.mem.length)) (hk:(Region.noSelect ops,m,takesB ops l listed,(isteps P default N ops hs l s).isSome,((ires P N ops hs l s).sel dl s.mem.length).underB s.mem.length,seenL (iobs P N ops hs l s),ineed P N ops hs l s)=(true,n+l.length,true,true,true,seenR (iobs P N ops hs l s),True):=by kernel_rfl) (hnp:NoPanic Q:=by exact fun _ _ h=>h):PO P N ops hs m listed Q s:=PO.tk l m dl n trivial hnp h hk
theorem PO1.a {o:Oper} (dl:List Nat) (mm:Nat) {n:Nat} (h:PO P N ops hs n (listed.setIfInBounds i true) Q ((mres P s o).sel dl mm)) (hk:(gpath ops s o,dstB N [] o.dst,(touch s o).all (fun b=>hs.contains b),(memD P default s o).isSome,((mres P s o).sel dl mm).underB mm,(mres P s o).mem.length,seenL ((memD P default s o).getD (s,[],[])).2.1,andL ((memD P default s o).getD (s,[],[])).2.2)=(some [],true,true,true,true,mm,seenR ((memD P default s o).getD (s,[],[])).2.1,True):=by kernel_rfl) (ho:ops[i]? = some o:=by rfl):PO1 P N ops hs n listed Q s i:=PO1.mm ho dl mm trivial h hk
def St.rowF (s:St) (b:Nat):Option (Nat×(Nat→List D)):=match s.mem[b]? with
 | some (.row _ _ n f)=>some (n,f)
 | _=>none
def St.setF (s:St) (b:Nat) (f:Nat→List D):St:=match s.mem[b]? with
 | some (.row t z n _)=>s.setMem b (.row t z n f)
 | _=>s
theorem row_of {b n:Nat} {f0:Nat→List D} (h:s.rowF b=some (n,f0)) (f1:Nat→List D):∃ t z,s.mem[b]? = some (.row t z n f0)∧s.setF b f1=s.setMem b (.row t z n f1):=by
 unfold St.rowF at h
 split at h
 ·rename_i t z n' f' hm
  simp only [Option.some.injEq,Prod.mk.injEq] at h
  obtain ⟨rfl,rfl⟩:=h
  exact ⟨t,z,hm,by unfold St.setF; rw [hm]⟩
 ·cases h
theorem rq {rs:List ResultVar} {R:D→Prop} (d:D) (hR:R d) (h:resAll P s rs=some (d,[]):=by kernel_rfl):retQ P rs R .ret s:=retQ_ret h trivial hR
theorem po {G:List (Nat×List D)} {f:FuncId} {fn:Func} {ds:List D} {R:D→Prop} (N:Nat) (hf:P.funcs[f]? = some fn) (hb:fn.body=some c) (h:PW P N c (retQ P fn.results.toList R) { tab:=entsD 0 ds,mem:=[],gl:=G }) (hn:fn.ntmps=N:=by rfl) (hle:ds.length≤N:=by exact Nat.le_of_ble_eq_true rfl):PC P G f ds R:=PC.of hf hb hn hle h
variable {α : Type} [Inhabited α]
theorem ap_f (e : α → List D) (xs:List α) (v : α) (i:Nat) (hi:i<xs.length+1):(if i<xs.length then e (xs.getD i default) else ([e v][i-xs.length]?).getD [])=e ((xs++[v]).getD i default):=by
 rw [getD_app]
 split
 ·rfl
 ·rw [show i-xs.length=0 by omega]
  rfl
theorem st_f (e : α → List D) (xs:List α) (i:Nat) (v : α) (hi:i<xs.length) (k:Nat):(if k=i then e v else e (xs.getD k default))=e ((xs.set i v).getD k default):=by
 rw [getD_set (hi:=hi)]
 split <;> rfl
theorem PL.ap (b:Nat) (e : α → List D) (xs:List α) (v : α) (h:PL P N ops l Q (s.setF b fun j=>e ((xs++[v]).getD j default))) (hk:s.rowF b=some (xs.length+1,fun j=>if j<xs.length then e (xs.getD j default) else ([e v][j-xs.length]?).getD []):=by kernel_rfl):PL P N ops l Q s:=by
 obtain ⟨t,z,h1,h2⟩:=row_of hk fun j=>e ((xs++[v]).getD j default)
 rw [h2] at h
 exact PL.rm b _ _ (fun i hi=>ap_f e xs v i hi) h h1
theorem PL.st (b:Nat) (e : α → List D) (xs:List α) (i:Nat) (v : α) (h:PL P N ops l Q (s.setF b fun j=>e ((xs.set i v).getD j default))) (hk:(s.rowF b).map (fun x=>x.2)=some (fun j=>if j=i then e v else e (xs.getD j default)):=by kernel_rfl) (hi:i<xs.length:=by (try simp only [List.length_set,List.length_replicate,List.length_append,List.length_cons,List.length_nil]) <;> omega):PL P N ops l Q s:=by
 obtain ⟨⟨n,f⟩,hn,rfl⟩:=Option.map_eq_some_iff.1 hk
 obtain ⟨t,z,h1,h2⟩:=row_of hn fun j=>e ((xs.set i v).getD j default)
 rw [h2] at h
 exact PL.rm b _ _ (fun k _=>st_f e xs i v hi k) h h1
theorem PO.ap (b:Nat) (e : α → List D) (xs:List α) (v : α) {k:Nat} (h:PO P N ops hs k listed Q (s.setF b fun j=>e ((xs++[v]).getD j default))) (hk:s.rowF b=some (xs.length+1,fun j=>if j<xs.length then e (xs.getD j default) else ([e v][j-xs.length]?).getD []):=by kernel_rfl):PO P N ops hs k listed Q s:=by
 obtain ⟨t,z,h1,h2⟩:=row_of hk fun j=>e ((xs++[v]).getD j default)
 rw [h2] at h
 exact PO.rm b _ _ (fun i hi=>ap_f e xs v i hi) h h1
theorem PO.st (b:Nat) (e : α → List D) (xs:List α) (i:Nat) (v : α) {k:Nat} (h:PO P N ops hs k listed Q (s.setF b fun j=>e ((xs.set i v).getD j default))) (hk:(s.rowF b).map (fun x=>x.2)=some (fun j=>if j=i then e v else e (xs.getD j default)):=by kernel_rfl) (hi:i<xs.length:=by (try simp only [List.length_set,List.length_replicate,List.length_append,List.length_cons,List.length_nil]) <;> omega):PO P N ops hs k listed Q s:=by
 obtain ⟨⟨n,f⟩,hn,rfl⟩:=Option.map_eq_some_iff.1 hk
 obtain ⟨t,z,h1,h2⟩:=row_of hn fun j=>e ((xs.set i v).getD j default)
 rw [h2] at h
 exact PO.rm b _ _ (fun k _=>st_f e xs i v hi k) h h1
def upE (d:Nat) (v:D):List Ent→List Ent
 | []=>[]
 | e::r=>if e.d == d then { e with dv:=v }::r else e::upE d v r
theorem upE_id {d:Nat} {v:D}:∀ {l:List Ent} {e:Ent},l.find? (fun e=>e.d == d)=some e→e.dv=v→upE d v l=l
 | [],_,h,_=>by cases h
 | a::r,e,h,hv=>by
  unfold upE
  rw [List.find?_cons] at h
  by_cases ha:(a.d == d)=true
  ·rw [ha] at h
   injection h with h
   subst h
   rw [if_pos ha,← hv]
  ·rw [Bool.not_eq_true] at ha
   rw [ha] at h
   rw [if_neg (by rw [ha]; decide),upE_id h hv]
def runU:St→List (Nat×D×D)→St×List (Option D)
 | s,[]=>(s,[])
 | s,(d,_,v)::r=>((runU { s with tab:=upE d v s.tab } r).1,(s.find d).map (fun e=>e.dv)::(runU { s with tab:=upE d v s.tab } r).2)
theorem runU_id:∀ (us:List (Nat×D×D)) (s:St),(runU s us).2=us.map (fun u=>some u.2.1)→(∀ p ∈ us.map (fun u=>u.2.1=u.2.2),p)→(runU s us).1=s
 | [],_,_,_=>rfl
 | (d,v0,v)::r,s,h,he=>by
  simp only [runU,List.map_cons,List.cons.injEq] at h ⊢
  obtain ⟨h1,h2⟩:=h
  obtain ⟨e,hf,hd⟩:=Option.map_eq_some_iff.1 h1
  have hv:v0=v:=he _ (by rw [List.map_cons]; exact List.mem_cons_self ..)
  have hid:({ s with tab:=upE d v s.tab }:St)=s:=by rw [upE_id hf (hd.trans hv)]
  rw [hid] at h2 ⊢
  exact runU_id r s h2 fun p hp=>he p (by rw [List.map_cons]; exact List.mem_cons_of_mem _ hp)
def rowN (m:List Obj) (b:Nat):Option Nat:=match m[b]? with
 | some (.row _ _ n _)=>some n
 | _=>none
def upR (b n:Nat) (m:List Obj):List Obj:=match m[b]? with
 | some (.row t z _ f)=>m.set b (.row t z n f)
 | _=>m
theorem upR_id {b n:Nat} {m:List Obj} (h:rowN m b=some n):upR b n m=m:=by
 unfold rowN at h
 unfold upR
 split at h
 ·rename_i t z n' f hm
  injection h with h
  subst h
  try rw [hm]
  refine List.ext_getElem? fun i => ?_
  rw [List.getElem?_set]
  split
  ·rename_i e
   subst e
   rw [if_pos (List.getElem?_eq_some_iff.1 hm).1,hm]
  ·rfl
 ·cases h
def runN:List Obj→List (Nat×Nat×Nat)→List Obj×List (Option Nat)
 | m,[]=>(m,[])
 | m,(b,_,n)::r=>((runN (upR b n m) r).1,rowN m b::(runN (upR b n m) r).2)
theorem runN_id:∀ (ns:List (Nat×Nat×Nat)) (m:List Obj),(runN m ns).2=ns.map (fun u=>some u.2.1)→(∀ p ∈ ns.map (fun u=>u.2.1=u.2.2),p)→(runN m ns).1=m
 | [],_,_,_=>rfl
 | (b,n0,n)::r,m,h,he=>by
  simp only [runN,List.map_cons,List.cons.injEq] at h ⊢
  obtain ⟨h1,h2⟩:=h
  have hv:n0=n:=he _ (by rw [List.map_cons]; exact List.mem_cons_self ..)
  have hid:upR b n m=m:=upR_id (by rw [h1,hv])
  rw [hid] at h2 ⊢
  exact runN_id r m h2 fun p hp=>he p (by rw [List.map_cons]; exact List.mem_cons_of_mem _ hp)
theorem BackR.u {α : Type} {st : α → St} {I : α → Prop} {μ : α → Nat} {ds:List Nat} {m n:Nat} (us:List (Nat×D×D)) (ns:List (Nat×Nat×Nat)) (x' : α) (hI:I x') (hμ : μ x'<n:=by (try dsimp only); exact nD) (hu:andL (us.map fun u=>u.2.1=u.2.2):=by (try simp only [List.map_cons,List.map_nil,andL]) <;> (repeat' (refine And.intro ?_ ?_)) <;> first|rfl|(refine congrArg I ?_; rw [Ev.wrap_i64 oM oM]; try omega)|(refine congrArg (D.h _) ?_; simp only [List.length_append,List.length_cons,List.length_nil,List.length_set])) (hn:andL (ns.map fun u=>u.2.1=u.2.2):=by (try simp only [List.map_cons,List.map_nil,andL]) <;> (repeat' (refine And.intro ?_ ?_)) <;> first|rfl|simp only [List.length_append,List.length_cons,List.length_nil,List.length_set]) (hk:((s'.sel ds m).underB m,(runU (s'.sel ds m) us).2,(runN (runU (s'.sel ds m) us).1.mem ns).2,({ (runU (s'.sel ds m) us).1 with mem:=(runN (runU (s'.sel ds m) us).1.mem ns).1 }:St))=(true,us.map (fun u=>some u.2.1),ns.map (fun u=>some u.2.1),st x'):=by kernel_rfl):BackR st I μ ds m n s':=by
 simp only [Prod.mk.injEq] at hk
 obtain ⟨h1,h2,h3,h4⟩:=hk
 have e1:=runU_id us _ h2 (andL_all hu)
 rw [e1] at h3 h4
 have e2:=runN_id ns _ h3 (andL_all hn)
 rw [e2] at h4
 exact BackR.of x' rfl h1 (h4▸Rem.refl _) hI hμ
end
end Go.Proofs.Ytkhdnlkdcikdmaa.Dp
namespace Go.Proofs.Ytkhdnlkdcikdmaa.Dp
open Go.ChangeShapes Go.WideShapes Go.RowKit Go.Proofs.Ytkhdnlkdcikdmaa.Sm
set_option maxHeartbeats 1000000
set_option linter.unusedVariables false
def u8d (x:UInt8):List D:=[.v (.int .u8 (x.toNat:Int))]
def bytesD (l:List UInt8):D:=sl' 1 u8d l
section
variable {w w':World} {ok:Nat→Prop} {B n c:Nat} {a:Option Addr} {l m:List UInt8} {v:Value}
theorem repC_v {x:Value} (h:RepC w ok (.v x) v):v=x:=by cases h; rfl
theorem rep8 {f:Nat→List D} (h:RepC w ok (.s n 1 f) v) (hn:n=l.length) (hf:∀ i,i<n→f i=u8d (l.getD i default)) (hB:∀ g,ok g→g<B):∃ a c,v = .slice a n c∧Row8 w B a n c l:=by
 cases h with
 | s0 z f a c ha hc=>exact ⟨a,c,rfl,hn.symm,Nat.zero_le _,hc,ha,fun h=>absurd h oM⟩
 | @s n z f b off c vals hb hn' hc hz hv hd =>
  refine ⟨some ⟨b,off,none⟩,c,rfl,Row8.mk hn.symm hn' hc (fun h=>nomatch h) fun _=>⟨b,off,rfl,hB b hb,fun i d hi => ?_⟩⟩
  have hi':i<n:=by rw [hn]; exact (List.getElem?_eq_some_iff.1 hi).1
  have h1:=hv i 0 hi' oM
  rw [Nat.mul_one,Nat.add_zero] at h1
  rw [h1,repC_v (hd i 0 (.v (.int .u8 (d.toNat:Int))) hi' (by rw [hf i hi',List.getD_eq_getElem?_getD,hi]; rfl))]
theorem rep_bytes (h:RepC w ok (bytesD l) v) (hB:∀ g,ok g→g<B):∃ a c,v = .slice a l.length c∧Row8 w B a l.length c l:=rep8 h rfl (fun _ _=>rfl) hB
theorem rep_bytes2 (h:RepC w ok (bytesD l) v) (hB:∀ g,ok g→g<B):∃ a c,v = .slice a l.length c∧Row8 w B a l.length c l∧(0<l.length→∀ (b off:Nat),a=some ⟨b,off,none⟩→ok b):=by
 obtain ⟨a,c,rfl,hr⟩:=rep_bytes h hB
 refine ⟨a,c,rfl,hr,fun h0 b off ha => ?_⟩
 subst ha
 unfold bytesD sl' at h
 generalize l.length=n at h h0
 cases h with
 | s0 z f a c ha hc=>omega
 | s vals hb hn hc hz hv hd=>exact hb
theorem row8_rep (h:Row8 w B a n c l) (hok:∀ b off,a=some ⟨b,off,none⟩→b<B→ok b):RepC w ok (bytesD l) (.slice a n c):=by
 obtain rfl:=h.len
 unfold bytesD sl'
 rcases Nat.eq_zero_or_pos l.length with h0|h0
 ·rw [h0]
  exact .s0 _ _ _ _ h.none_ h.cap
 ·obtain ⟨b,off,rfl,hb,hc⟩:=h.cells h0
  refine .s (fun i _ => .int .u8 ((l.getD i default).toNat:Int)) (hok b off rfl hb) h.room h.cap (fun i _=>⟨rfl,rfl⟩) (fun i j hi hj => ?_) fun i j d hi hj => ?_
  ·obtain rfl:j=0:=by omega
   rw [Nat.mul_one,Nat.add_zero]
   exact hc i _ (by rw [List.getD_eq_getElem?_getD,List.getElem?_eq_getElem hi]; rfl)
  ·match j,hj with
   | 0,hj=>cases hj; exact .v _
theorem made_rep {E:TypeId} (h:Made w E l v w'):RepC w' (fun g=>w.heap.size≤g∧g<w'.heap.size) (bytesD l) v:=by
 obtain ⟨a,c,rfl,hr,_⟩:=h.slice
 refine row8_rep hr fun b off ha hb=>⟨?_,hb⟩
 rcases h.1.2 with ⟨hv,_⟩|⟨g,cap,cur,hv,hg,_⟩
 ·injection hv with h1; rw [ha] at h1; cases h1
 ·injection hv with h1; rw [ha] at h1; injection h1 with h1; injection h1 with h1; omega
theorem owns_rep {α : Type} [Inhabited α] {enc : α → Value} {E:TypeId} {base:Nat} {L:List α} (h:w'.ownsRow base E 1 v n (L.map enc)) (hone:∀ x,D.one (.v (enc x))=true):RepC w' (fun g=>base≤g∧g<w'.heap.size) (sl' 1 (fun x=>[D.v (enc x)]) L) v:=by
 have hlen:L.length=n:=by have:=h.1; rw [List.length_map] at this; omega
 have H:=h
 unfold sl'
 rcases h.2 with ⟨hv,h0⟩|⟨g,cap,cur,hv,hg,hh,hnc,hcm,hsz,htk⟩
 ·rw [hv,hlen,h0]
  exact .s0 _ _ _ _ (fun _=>rfl) (Nat.zero_le _)
 ·subst hv
  rcases Nat.eq_zero_or_pos n with h0|h0
  ·rw [hlen,h0]
   exact .s0 _ _ _ _ (fun h=>nomatch h) hcm
  ·rw [hlen]
   refine .s (fun i _=>enc (L.getD i default)) ⟨hg,(H.lt g rfl).2⟩ hnc hcm (fun i _=>⟨rfl,by show ([D.v (enc (L.getD i default))]).all D.one=true; rw [List.all_cons,hone]; rfl⟩) (fun i j hi hj => ?_) fun i j d hi hj => ?_
   ·obtain rfl:j=0:=by omega
    have hi':i<L.length:=by omega
    have hc:=H.cells (g:=g) rfl i (enc (L.getD i default)) (by rw [List.getElem?_map,List.getD_eq_getElem?_getD,List.getElem?_eq_getElem hi']; rfl)
    rw [Nat.mul_one,Nat.add_zero]
    by_cases h1:i=0
    ·subst h1; simpa [Addr.add] using hc
    ·simpa [Addr.add,h1] using hc
   ·match j,hj with
    | 0,hj=>cases hj; exact .v _
variable {P:Program} {f:FuncId}
theorem PC.of8 {x:Value} (h:∀ (a:Option Addr) (n c:Nat) (w:World),Row8 w w.heap.size a n c l→Calls P f #[.slice a n c] w fun e w'=>e = .returned x∧w=w'):PC P [] f [bytesD l] (· = .v x):=by
 intro κ w vs hκ _ hl hd
 match vs,hl with
 | [v],_ =>
  obtain ⟨a,c,rfl,hr⟩:=rep_bytes (hd 0 _ _ rfl rfl) hκ
  refine Calls.mono (h a _ c w hr) fun e w' ⟨h1,h2⟩=>⟨x,_,h1,rfl,.v _,?_⟩
  rw [← h2]
  exact Below.refl _ _
theorem PC.made8 {E:TypeId} (hs:l.length≤1000000) (h:∀ (a:Option Addr) (n c:Nat) (w:World),Row8 w w.heap.size a n c l→n≤1000000→Calls P f #[.slice a n c] w fun e w'=>∃ v,e = .returned v∧Made w E m v w'):PC P [] f [bytesD l] (· = bytesD m):=by
 intro κ w vs hκ _ hl hd
 match vs,hl with
 | [v],_ =>
  obtain ⟨a,c,rfl,hr⟩:=rep_bytes (hd 0 _ _ rfl rfl) hκ
  exact Calls.mono (h a _ c w hr hs) fun e w' ⟨v,h1,h2⟩=>⟨v,_,h1,rfl,(made_rep h2).mono fun b hb=>⟨⟨.inr hb.1,hb.2⟩,rfl⟩,h2.2⟩
end
end Go.Proofs.Ytkhdnlkdcikdmaa.Dp
