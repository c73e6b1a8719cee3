/- Deep reckoning: a region whose last operation comes behind all others, whatever the order: that operation by itself. No function of the program in it. -/
import Derived.Test.YtdomlccfjnkbjaaGreatDoorDpC
namespace Go.Proofs.YtdomlccfjnkbjaaGreatDoor.Dp
open Go.RowKit Go.Proofs.YtdomlccfjnkbjaaGreatDoor.Sm
set_option maxHeartbeats 1000000
set_option linter.unusedVariables false
theorem PC.arg {P:Program} {G:List (Nat×List D)} {f:FuncId} {ds:List D} {R:D→Prop} (k:Nat) (d':D) {d0:D} (hk:ds[k]? = some d0) (hd:∀ w ok v,RepC w ok d0 v→RepC w ok d' v) (h:PC P G f (ds.set k d') R):PC P G f ds R:=fun κ w vs h1 h2 h3 h4=>h κ w vs h1 h2 (by rw [List.length_set]; exact h3) fun j d v e1 e2=>by
 have hlt:k<ds.length:=(List.getElem?_eq_some_iff.1 hk).1
 by_cases hj:k=j
 ·subst hj
  rw [List.getElem?_set_self hlt] at e1
  injection e1 with e1
  subst e1
  exact hd _ _ _ (h4 k d0 v hk e2)
 ·rw [List.getElem?_set_ne hj] at e1
  exact h4 j d v e1 e2
theorem PC.argnil {P:Program} {G:List (Nat×List D)} {f:FuncId} {ds cs:List D} {R:D→Prop} (k i z:Nat) (g:Nat→List D) (hk:ds[k]? = some (.r cs)) (hi:cs[i]? = some (.v (.slice none 0 0))) (h:PC P G f (ds.set k (.r (cs.set i (.s 0 z g)))) R):PC P G f ds R :=
 PC.arg k _ hk (fun w ok v hv=>hv.renil hi) h
theorem PC.argnil1 {P:Program} {G:List (Nat×List D)} {f:FuncId} {ds:List D} {R:D→Prop} (k z:Nat) (g:Nat→List D) (hk:ds[k]? = some (.v (.slice none 0 0))) (h:PC P G f (ds.set k (.s 0 z g)) R):PC P G f ds R :=
 PC.arg k _ hk (fun w ok v hv=>by cases hv; exact .s0 z g none 0 (fun _=>rfl) (Nat.zero_le _)) h
end Go.Proofs.YtdomlccfjnkbjaaGreatDoor.Dp
namespace Go.Proofs.YtdomlccfjnkbjaaGreatDoor.Dp
open Go.RowKit Go.Proofs.YtdomlccfjnkbjaaGreatDoor.Sm
open Go.Proofs.YtdomlccfjnkbjaaGreatDoor.Ev (Obl opnds dstB PT nx pt_put undef_bool pickB isRow_false seenL seenR seen_all resRun)
set_option maxHeartbeats 1000000
set_option linter.unusedVariables false
set_option linter.unusedSimpArgs false
section
variable {P:Program} {N:Nat} {ops:Array Oper} {o:Oper} {Q:Exit→St→Prop} {s:St}
theorem PO1.build {hs:List Nat} {u i:Nat} {listed:Array Bool} {t:TypeId} {parts:Array (Nat×Operand)} {cs:List D} (ho:ops[i]? = some o) (hop:o.op = .build t parts) (hA:gpath ops s o=some []) (hd:dstB N [] o.dst=true) (hb:buildD P s t parts=some cs) (h:PO P N ops hs u (listed.setIfInBounds i true) Q (s.put o.dst [] (.r cs))):PO1 P N ops hs u listed Q s i:=fun κ B ρ a w0 w hI hb0=>by
 refine wpOp_of ho (val_step hI hA hd (.r cs) (fun _ => ?_) fun a' hI'=>⟨Agree.refl _ _ _,h κ B ρ a' w0 w hI' hb0⟩)
 unfold buildD at hb
 split at hb
 ·rename_i it fields dss h1 h2 h3
  split at hb
  ·rename_i zv places h4 h5
   obtain ⟨out,k1,k2,k3⟩:=fill_rep hI parts.toList dss _ cs zv.cells h3 hb (by simp) (fun j d u q1 q2=>by
    rw [List.getElem?_map] at q1
    obtain ⟨u',q3,rfl⟩:=Option.map_eq_some_iff.1 q1
    rw [Array.getElem?_toList] at q3
    rw [q3] at q2
    injection q2 with q2
    subst q2
    exact .c (.v _))
   have hbt:P.built t (parts.map fun (i,x)=>(i,a.eval x)).toList=some out:=by
    unfold Program.built
    rw [h1,h2]
    simp only [h4,h5]
    rw [Array.toList_map]
    exact k1
   refine ⟨.agg out,?_,?_⟩
   ·unfold execOp
    simp only [hop,Sem.run_bind,run_build w t _ out hbt,Sem.run_pure,Result.andThen_ok]
   ·have:=RepO.r (w:=w) (ok:=okW κ w ρ) (ρ := ρ) (cs:=cs) (vs:=out.toList) (by simpa using k2) (fun j d u q1 q2=>k3 j d u q1 (by simpa using q2))
    simpa using this
  ·cases hb
 ·cases hb
theorem PL.mkG {f:FuncId} {rest:List Oper} {A:List (Nat×Bool)} {cap:Array Operand} (cs:List D) (h:PL P N ops rest Q (s.put o.dst A (.c f cs))) (hk:(o.op,gpath ops s o,dstB N A o.dst,looksA s A cap.toList,cs.all D.shut)=(.makeFunc (.func f) #[] cap,some A,true,some cs,true):=by kernel_rfl):PL P N ops (o::rest) Q s:=fun κ B ρ a w0 w hI hb0=>by
 simp only [Prod.mk.injEq] at hk
 obtain ⟨hop,hA,hd,hl,hsh⟩:=hk
 refine val_step hI hA hd (.c f cs) (fun hp => ?_) fun a' hI'=>h κ B ρ a' w0 w hI' hb0
 obtain ⟨q1,q2⟩:=looksA_rep hI hp hl
 refine ⟨.func (.func f) #[] (cap.toList.map a.eval).toArray,?_,?_⟩
 ·unfold execOp
  simp only [hop,Instr.makeFunc,Sem.run_bind,Sem.run_pure,Result.andThen_ok]
  have e:cap.map a.eval=(cap.toList.map a.eval).toArray:=by rw [← Array.toList_map]
  rw [e,show (#[]:Array Operand).map a.eval = #[] from Array.map_empty]
 ·refine .one (.c (.c q1 fun j d v h1 h2 => ?_))
  have hds:=List.all_eq_true.1 hsh d (List.mem_of_getElem? h1)
  exact shut_rep (by cases d <;> first|rfl|cases hds) (q2 j d v h1 h2)
theorem PO.frzR {hs:List Nat} {n:Nat} {listed:Array Bool} {s':St} (b:Nat) {z m:Nat} {f f':Nat→List D} {t:TypeId} (hmb:s.mem[b]? = some (.row t z m f)) (hf:∀ i,i<m→f i=f' i) (hfx:s.fx≤b) (he:s.frzR b z m f'=s') (h:PO P N ops hs n listed Q s'):PO P N ops hs n listed Q s:=fun κ B ρ a w0 w hI hb=>by
 subst he
 refine wpAnyH_monoS (fun u hA=>⟨hA.size,fun k hk hn=>hA.block k hk fun ⟨b2,hb2,c,hc⟩=>hn ⟨b2,hb2,c,?_⟩⟩) _ _ _ _ (h κ B _ a w0 w (hI.frzR hmb hf hfx) hb)
 by_cases hbb:b2=b
 ·subst hbb
  have hl:b2 < ρ.length:=by
   have:=(List.getElem?_eq_some_iff.1 hc).1
   simpa using this
  rw [List.getElem?_set_self hl] at hc
  cases hc
 ·rw [List.getElem?_set_ne (Ne.symm hbb)] at hc
  exact hc
end
theorem fz_eq {n:Nat} {s:St} {d d':D} (S:D→St) (h:s=S (if decide (n≤n)=true then d else D.any)) (e:d=d'):s=S d':=by rw [h,decide_eq_true (Nat.le_refl n),if_pos rfl,e]
theorem sl_len {α : Type} [Inhabited α] {z n:Nat} {e : α → List D} {xs:List α} (h:xs.length=n):D.s n z (fun i=>e (xs.getD i default))=sl' z e xs:=by subst h; rfl
theorem PC.coarse {P:Program} {G:List (Nat×List D)} {f:FuncId} {ds:List D} {R R':D→Prop} (h:PC P G f ds R) (hR:∀ d,R d→∃ d',R' d'∧∀ (w:World) (ok:Nat→Prop) (v:Value),RepC w ok d v→RepC w ok d' v):PC P G f ds R':=fun κ w vs h1 h2 h3 h4=>(h κ w vs h1 h2 h3 h4).mono (by
 rintro e w' ⟨v,d,rfl,k1,k2,k3⟩
 obtain ⟨d',k4,k5⟩:=hR d k1
 exact ⟨v,d',rfl,k4,k5 _ _ _ k2,k3⟩)
theorem RepC.nil_s {w:World} {ok:Nat→Prop} {z:Nat} {f:Nat→List D} {v:Value} (h:RepC w ok (.v (.slice none 0 0)) v):RepC w ok (.s 0 z f) v:=by
 cases h
 exact .s0 z f none 0 (fun _=>rfl) (Nat.zero_le _)
theorem RepC.seqw {w:World} {ok:Nat→Prop} {n z:Nat} {f f':Nat→List D} {v:Value} (h:RepC w ok (.s n z f) v) (hf:∀ i,i<n→(f' i).length=z∧(f' i).all D.one=true∧∀ (j:Nat) (d':D),(f' i)[j]? = some d'→∃ d,(f i)[j]? = some d∧∀ (w:World) (ok:Nat→Prop) (u:Value),RepC w ok d u→RepC w ok d' u):RepC w ok (.s n z f') v:=by
 cases h with
 | s0 z f a c ha hc=>exact .s0 z f' a c ha hc
 | s vals hb hn hc hz hv hd =>
  refine .s vals hb hn hc (fun i hi=>⟨(hf i hi).1,(hf i hi).2.1⟩) hv fun i j d' hi hj => ?_
  obtain ⟨d,h1,h2⟩:=(hf i hi).2.2 j d' hj
  exact h2 _ _ _ (hd i j d hi h1)
end Go.Proofs.YtdomlccfjnkbjaaGreatDoor.Dp
namespace Go.Proofs.YtdomlccfjnkbjaaGreatDoor.Dp
open Go.RowKit Go.Proofs.YtdomlccfjnkbjaaGreatDoor.Sm
set_option maxHeartbeats 1000000
set_option linter.unusedVariables false
set_option linter.unusedSimpArgs false
section
variable {P:Program} {N:Nat} {ops:Array Oper} {o:Oper} {L:Nat}
theorem upon_then {Q:Exit→Act→World→Prop} {K next:Act→World→Prop} {a:Act} (r:Result Next):o.upon P a next (Exit.then K Q) r=o.upon P a next Q r:=by
 cases r with
 | ok n w'=>cases n <;> rfl
 | halt h w'=>cases h <;> rfl
theorem wpOp_then {Q:Exit→Act→World→Prop} {K next:Act→World→Prop} {a:Act} {w:World} {i:Nat} (h:wpOp P ops (Exit.then K Q) i next a w):wpOp P ops Q i next a w:=by
 unfold wpOp at h ⊢
 split
 ·rename_i he
  rw [he] at h
  exact h
 ·rename_i o' he
  rw [he] at h
  dsimp only at h
  split
  ·rename_i hw
   rw [if_pos hw] at h
   rcases h with h|h
   ·left
    unfold Oper.wp at h ⊢
    rw [upon_then] at h
    exact h
   ·exact .inr h
  ·rename_i hw
   rw [if_neg hw] at h
   exact h
theorem wpOp_then' {Q:Exit→Act→World→Prop} {K next:Act→World→Prop} {a:Act} {w:World} {i:Nat} (h:wpOp P ops Q i next a w):wpOp P ops (Exit.then K Q) i next a w:=by
 unfold wpOp at h ⊢
 split
 ·rename_i he
  rw [he] at h
  exact h
 ·rename_i o' he
  rw [he] at h
  dsimp only at h
  split
  ·rename_i hw
   rw [if_pos hw] at h
   rcases h with h|h
   ·left
    unfold Oper.wp at h ⊢
    rw [upon_then]
    exact h
   ·exact .inr h
  ·rename_i hw
   rw [if_neg hw] at h
   exact h
theorem any_then {Q:Exit→Act→World→Prop} {K K':Act→World→Prop} (hK:∀ a w,K a w→K' a w):∀ (fuel:Nat) (listed:Array Bool) (a:Act) (w:World),wpAny P .any ops (Exit.then K Q) fuel listed a w→wpAny P .any ops (Exit.then K' Q) fuel listed a w
 | 0,_,_,_,h=>⟨h.1,hK _ _ h.2⟩
 | fuel+1,_,_,_,h=>⟨fun hr=>hK _ _ (h.1 hr),fun i hi=>wpOp_then' (wpOp_then (wpOp_mono (fun a' w' h'=>any_then hK fuel _ a' w' h') (h.2 i hi)))⟩
def cutLB (ops:Array Oper) (L:Nat):Bool:=((List.range ops.size).all fun i=>((ops[i]?).map (·.after.all fun e => !Region.binds .any e||decide (e.on<i))).getD false)&&((List.range ops.size).all fun j=>j == L||((ops[L]?).map (·.after.any fun e=>Region.binds .any e&&e.on == j)).getD false)&&decide (L<ops.size)
theorem least {f:Nat→Bool}:∀ n:Nat,(∃ j,j<n∧f j=false)→∃ m,m<n∧f m=false∧∀ j,j<m→f j=true
 | 0,⟨j,hj,_⟩=>absurd hj (Nat.not_lt_zero _)
 | n+1,⟨j,hj,hf⟩=>by
  by_cases h:∃ j,j<n∧f j=false
  ·obtain ⟨m,h1,h2,h3⟩:=least n h
   exact ⟨m,by omega,h2,h3⟩
  ·refine ⟨n,Nat.lt_succ_self _,?_,fun i hi => ?_⟩
   ·have:j=n:=by
     apply Classical.byContradiction
     intro hne
     exact h ⟨j,by omega,hf⟩
    rw [← this]; exact hf
   ·cases hfi:f i with
    | true=>rfl
    | false=>exact absurd ⟨i,hi,hfi⟩ h
theorem ready_mem {listed:Array Bool} {i:Nat}:i ∈ Region.ready .any ops listed↔i<ops.size∧listed.getD i true=false∧((ops[i]?).map (·.after.all fun e => !Region.binds .any e||listed.getD e.on false)).getD false=true:=by
 unfold Region.ready
 rw [List.mem_filter,List.mem_range,Bool.and_eq_true,Bool.not_eq_true']
theorem getD_in {listed:Array Bool} {i:Nat} {b:Bool} (h:i<listed.size):listed.getD i b=listed[i]:=by simp [h]
theorem set_at {listed:Array Bool} {i j:Nat} {b:Bool} (hi:i<listed.size):(listed.setIfInBounds i true).getD j b=if j=i then true else listed.getD j b:=by
 by_cases hj:j<listed.size
 ·rw [getD_in (by simpa using hj),getD_in hj]
  grind
 ·have:j≠i:=by omega
  rw [if_neg this]
  simp [hj]
theorem set_set {listed:Array Bool} {i j:Nat}:(listed.setIfInBounds i true).setIfInBounds j true=(listed.setIfInBounds j true).setIfInBounds i true:=by
 by_cases h:i=j
 ·subst h; rfl
 ·exact Array.setIfInBounds_comm true true h
theorem ready_none {listed:Array Bool} (hs:listed.size=ops.size) (h:∀ j,j<ops.size→listed.getD j true=true):Region.ready .any ops listed=[]:=by
 rw [List.eq_nil_iff_forall_not_mem]
 intro i hi
 obtain ⟨h1,h2,_⟩:=ready_mem.1 hi
 rw [h i h1] at h2
 cases h2
theorem any_done {Q:Exit→Act→World→Prop} {listed:Array Bool} {a:Act} {w:World} (hr:Region.ready .any ops listed=[]) (h:Q .normal a w):∀ fuel,wpAny P .any ops Q fuel listed a w
 | 0=>⟨hr,h⟩
 | _+1=>⟨fun _=>h,by rw [hr]; simp⟩
theorem cut_some (hc:cutLB ops L=true) {listed:Array Bool} (hsz:listed.size=ops.size) (hL:listed.getD L true=false):Region.ready .any ops listed≠[]:=by
 unfold cutLB at hc
 simp only [Bool.and_eq_true,decide_eq_true_eq,List.all_eq_true,List.mem_range] at hc
 obtain ⟨⟨hc1,hc2⟩,hc3⟩:=hc
 intro he
 obtain ⟨m,h1,h2,h3⟩:=least (f:=fun j=>listed.getD j true) ops.size ⟨L,hc3,hL⟩
 have:m ∈ Region.ready .any ops listed:=ready_mem.2 ⟨h1,h2,by
  have h4:=hc1 m h1
  cases hm:ops[m]? with
  | none=>rw [hm] at h4; cases h4
  | some om =>
   rw [hm] at h4
   show (om.after.all fun e => !Region.binds .any e||listed.getD e.on false)=true
   have h4:(om.after.all fun e => !Region.binds .any e||decide (e.on<m))=true:=h4
   rw [Array.all_eq_true'] at h4 ⊢
   intro e he
   have h5:=h4 e he
   rw [Bool.or_eq_true,decide_eq_true_eq] at h5
   rw [Bool.or_eq_true]
   rcases h5 with h5|h5
   ·exact .inl h5
   ·refine .inr ?_
    have h6:=h3 e.on h5
    rw [getD_in oM] at h6 ⊢
    exact h6⟩
 rw [he] at this
 cases this
theorem cut_last (hc:cutLB ops L=true) {listed:Array Bool} (hsz:listed.size=ops.size) (hi:L ∈ Region.ready .any ops listed):Region.ready .any ops (listed.setIfInBounds L true)=[]:=by
 unfold cutLB at hc
 simp only [Bool.and_eq_true,decide_eq_true_eq,List.all_eq_true,List.mem_range] at hc
 obtain ⟨⟨hc1,hc2⟩,hc3⟩:=hc
 refine ready_none (by simpa using hsz) fun j hj => ?_
 rw [set_at oM]
 by_cases hji:j=L
 ·rw [if_pos hji]
 ·rw [if_neg hji]
  cases hv:listed.getD j true with
  | true=>rfl
  | false =>
   exfalso
   obtain ⟨h1,h2,h3⟩:=ready_mem.1 hi
   have h4:=hc2 j hj
   rw [Bool.or_eq_true] at h4
   rcases h4 with h4|h4
   ·exact hji (by simpa using h4)
   ·cases hm:ops[L]? with
    | none=>rw [hm] at h4; cases h4
    | some om =>
     rw [hm] at h3 h4
     have h3:(om.after.all fun e => !Region.binds .any e||listed.getD e.on false)=true:=h3
     have h4:(om.after.any fun e=>Region.binds .any e&&e.on == j)=true:=h4
     rw [Array.any_eq_true'] at h4
     obtain ⟨e,he,h5⟩:=h4
     rw [Bool.and_eq_true,beq_iff_eq] at h5
     have h6:=Array.all_eq_true'.1 h3 e he
     rw [h5.1,h5.2,getD_in oM] at h6
     rw [getD_in oM] at hv
     rw [hv] at h6
     cases h6
theorem cut_keep {listed:Array Bool} {i:Nat} (hl:L<listed.size) (hi:i ∈ Region.ready .any ops listed) (hiL:i≠L):i ∈ Region.ready .any ops (listed.setIfInBounds L true):=by
 obtain ⟨h1,h2,h3⟩:=ready_mem.1 hi
 refine ready_mem.2 ⟨h1,by rw [set_at hl,if_neg hiL]; exact h2,?_⟩
 cases hm:ops[i]? with
 | none=>rw [hm] at h3; cases h3
 | some om =>
  rw [hm] at h3
  have h3:(om.after.all fun e => !Region.binds .any e||listed.getD e.on false)=true:=h3
  show (om.after.all fun e => !Region.binds .any e||(listed.setIfInBounds L true).getD e.on false)=true
  rw [Array.all_eq_true'] at h3 ⊢
  intro e he
  have h5:=h3 e he
  rw [Bool.or_eq_true] at h5 ⊢
  rcases h5 with h5|h5
  ·exact .inl h5
  ·refine .inr ?_
   rw [set_at hl]
   split
   ·rfl
   ·exact h5
theorem cut_any (hc:cutLB ops L=true) (hLs:L<ops.size) {Q:Exit→Act→World→Prop}:∀ (fuel:Nat) (listed:Array Bool) (a:Act) (w:World),listed.size=ops.size→listed.getD L true=false →
  wpAny P .any ops (Exit.then (fun a w=>wpOp P ops Q L (Q .normal) a w) Q) fuel (listed.setIfInBounds L true) a w→wpAny P .any ops Q (fuel+1) listed a w:=by
 intro fuel
 induction fuel with
 | zero =>
  intro listed a w hsz hL h
  refine ⟨fun he=>absurd he (cut_some hc hsz hL),fun i hi => ?_⟩
  by_cases hiL:i=L
  ·subst hiL
   exact wpOp_mono (fun a' w' hq'=>any_done (cut_last hc hsz hi) hq' _) (show wpOp P ops Q i (Q .normal) a w from h.2)
  ·have:=cut_keep oM hi hiL
   rw [h.1] at this
   cases this
 | succ fuel ih =>
  intro listed a w hsz hL h
  refine ⟨fun he=>absurd he (cut_some hc hsz hL),fun i hi => ?_⟩
  by_cases hiL:i=L
  ·subst hiL
   exact wpOp_mono (fun a' w' hq'=>any_done (cut_last hc hsz hi) hq' _) (show wpOp P ops Q i (Q .normal) a w from h.1 (cut_last hc hsz hi))
  ·refine wpOp_then (wpOp_mono (fun a' w' hq' => ?_) (h.2 i (cut_keep oM hi hiL)))
   refine ih _ a' w' (by simpa using hsz) (by
    have hi1:=(ready_mem.1 hi).1
    rw [set_at oM,if_neg (Ne.symm hiL)]
    exact hL) ?_
   rw [set_set]
   exact hq'
theorem PW.cutl {Q:Exit→St→Prop} {s:St} {id:Nat} (L:Nat) (hs:List Nat) (hm:P.follows .mixedOrders=true) (ho:ops[L]? = some o) (hc:cutLB ops L=true) {n:Nat} (hn:ops.size=n+1) (h:PO P N ops hs n ((Array.replicate ops.size false).setIfInBounds L true) (thenD (PL P N ops [o] Q) Q) s):PW P N (.region id ops true) Q s:=fun κ B ρ a w hI=>by
 have hb:Below w.heap.size w w.drew:=⟨rfl,rfl,rfl,Nat.le_refl _,fun _ _=>rfl⟩
 have hL:L<ops.size:=(Array.getElem?_eq_some_iff.1 ho).1
 refine wp_region_any hm ?_
 have h1:=wpAny_of_held _ _ _ _ (h κ B ρ a w w.drew (hI.later hb) (BelB.of_below hb hI.big))
 have e1:lift κ B N w (thenD (PL P N ops [o] Q) Q)=Exit.then (lift κ B N w (thenD (PL P N ops [o] Q) Q) .normal) (lift κ B N w Q):=by
  funext e a' w'
  cases e <;> rfl
 have e2:Exit.then (lift κ B N w Q .normal) (lift κ B N w Q)=lift κ B N w Q:=by
  funext e a' w'
  cases e <;> rfl
 rw [e1] at h1
 have h2:=any_then (K':=fun a' w'=>wpOp P ops (lift κ B N w Q) L (lift κ B N w Q .normal) a' w') (fun a' w' hk=>by
  obtain ⟨s',ρ',k1,k2,k3⟩:=hk
  refine wpOp_of ho ?_
  rw [e2]
  exact k1 κ B ρ' a' w w' k2 k3) _ _ _ _ h1
 have h3:=cut_any hc hL n (Array.replicate ops.size false) a w.drew (by simp) (by rw [getD_in (by simpa using hL)]; simp) h2
 rw [← hn] at h3
 exact h3
end
end Go.Proofs.YtdomlccfjnkbjaaGreatDoor.Dp
