/- Package frame's read, open. -/
import Derived.Test.YtdomlccfjnkbjaaGreatDoorLsArg
import Derived.Test.YtdomlccfjnkbjaaGreatDoorRdThree
import Derived.Test.YtdomlccfjnkbjaaGreatDoorFrAlive
import Derived.Test.YtdomlccfjnkbjaaGreatDoorSmOpen
namespace Go.Proofs.YtdomlccfjnkbjaaGreatDoor.Dp
open Go.RowKit Go.Proofs.YtdomlccfjnkbjaaGreatDoor.Sm
set_option maxHeartbeats 1000000
set_option linter.unusedVariables false
set_option linter.unusedSimpArgs false
section
variable {P:Program} {N:Nat} {ops:Array Oper} {o:Oper} {L:Nat}
theorem upon_then {Q:Exit→Act→World→Prop} {K next:Act→World→Prop} {a:Act} (r:Result Next):o.upon P a next (Exit.then K Q) r=o.upon P a next Q r:=by
 cases r with
 | ok n w'=>cases n <;> rfl
 | halt h w'=>cases h <;> rfl
theorem wpOp_then {Q:Exit→Act→World→Prop} {K next:Act→World→Prop} {a:Act} {w:World} {i:Nat} (h:wpOp P ops (Exit.then K Q) i next a w):wpOp P ops Q i next a w:=by
 unfold wpOp at h ⊢
 split
 ·rename_i he
  rw [he] at h
  exact h
 ·rename_i o' he
  rw [he] at h
  dsimp only at h
  split
  ·rename_i hw
   rw [if_pos hw] at h
   rcases h with h|h
   ·left
    unfold Oper.wp at h ⊢
    rw [upon_then] at h
    exact h
   ·exact .inr h
  ·rename_i hw
   rw [if_neg hw] at h
   exact h
theorem wpOp_then' {Q:Exit→Act→World→Prop} {K next:Act→World→Prop} {a:Act} {w:World} {i:Nat} (h:wpOp P ops Q i next a w):wpOp P ops (Exit.then K Q) i next a w:=by
 unfold wpOp at h ⊢
 split
 ·rename_i he
  rw [he] at h
  exact h
 ·rename_i o' he
  rw [he] at h
  dsimp only at h
  split
  ·rename_i hw
   rw [if_pos hw] at h
   rcases h with h|h
   ·left
    unfold Oper.wp at h ⊢
    rw [upon_then]
    exact h
   ·exact .inr h
  ·rename_i hw
   rw [if_neg hw] at h
   exact h
theorem any_then {Q:Exit→Act→World→Prop} {K K':Act→World→Prop} (hK:∀ a w,K a w→K' a w):∀ (fuel:Nat) (listed:Array Bool) (a:Act) (w:World),wpAny P .any ops (Exit.then K Q) fuel listed a w→wpAny P .any ops (Exit.then K' Q) fuel listed a w
 | 0,_,_,_,h=>⟨h.1,hK _ _ h.2⟩
 | fuel+1,_,_,_,h=>⟨fun hr=>hK _ _ (h.1 hr),fun i hi=>wpOp_then' (wpOp_then (wpOp_mono (fun a' w' h'=>any_then hK fuel _ a' w' h') (h.2 i hi)))⟩
def cutLB (ops:Array Oper) (L:Nat):Bool:=((List.range ops.size).all fun i=>((ops[i]?).map (·.after.all fun e => !Region.binds .any e||decide (e.on<i))).getD false)&&((List.range ops.size).all fun j=>j == L||((ops[L]?).map (·.after.any fun e=>Region.binds .any e&&e.on == j)).getD false)&&decide (L<ops.size)
theorem least {f:Nat→Bool}:∀ n:Nat,(∃ j,j<n∧f j=false)→∃ m,m<n∧f m=false∧∀ j,j<m→f j=true
 | 0,⟨j,hj,_⟩=>absurd hj (Nat.not_lt_zero _)
 | n+1,⟨j,hj,hf⟩=>by
  by_cases h:∃ j,j<n∧f j=false
  ·obtain ⟨m,h1,h2,h3⟩:=least n h
   exact ⟨m,by omega,h2,h3⟩
  ·refine ⟨n,Nat.lt_succ_self _,?_,fun i hi => ?_⟩
   ·have:j=n:=by
     apply Classical.byContradiction
     intro hne
     exact h ⟨j,by omega,hf⟩
    rw [← this]; exact hf
   ·cases hfi:f i with
    | true=>rfl
    | false=>exact absurd ⟨i,hi,hfi⟩ h
theorem ready_mem {listed:Array Bool} {i:Nat}:i ∈ Region.ready .any ops listed↔i<ops.size∧listed.getD i true=false∧((ops[i]?).map (·.after.all fun e => !Region.binds .any e||listed.getD e.on false)).getD false=true:=by
 unfold Region.ready
 rw [List.mem_filter,List.mem_range,Bool.and_eq_true,Bool.not_eq_true']
theorem getD_in {listed:Array Bool} {i:Nat} {b:Bool} (h:i<listed.size):listed.getD i b=listed[i]:=by simp [h]
theorem set_at {listed:Array Bool} {i j:Nat} {b:Bool} (hi:i<listed.size):(listed.setIfInBounds i true).getD j b=if j=i then true else listed.getD j b:=by
 by_cases hj:j<listed.size
 ·rw [getD_in (by simpa using hj),getD_in hj]
  grind
 ·have:j≠i:=by omega
  rw [if_neg this]
  simp [hj]
theorem set_set {listed:Array Bool} {i j:Nat}:(listed.setIfInBounds i true).setIfInBounds j true=(listed.setIfInBounds j true).setIfInBounds i true:=by
 by_cases h:i=j
 ·subst h; rfl
 ·exact Array.setIfInBounds_comm true true h
theorem ready_none {listed:Array Bool} (hs:listed.size=ops.size) (h:∀ j,j<ops.size→listed.getD j true=true):Region.ready .any ops listed=[]:=by
 rw [List.eq_nil_iff_forall_not_mem]
 intro i hi
 obtain ⟨h1,h2,_⟩:=ready_mem.1 hi
 rw [h i h1] at h2
 cases h2
theorem any_done {Q:Exit→Act→World→Prop} {listed:Array Bool} {a:Act} {w:World} (hr:Region.ready .any ops listed=[]) (h:Q .normal a w):∀ fuel,wpAny P .any ops Q fuel listed a w
 | 0=>⟨hr,h⟩
 | _+1=>⟨fun _=>h,by rw [hr]; simp⟩
theorem cut_some (hc:cutLB ops L=true) {listed:Array Bool} (hsz:listed.size=ops.size) (hL:listed.getD L true=false):Region.ready .any ops listed≠[]:=by
 unfold cutLB at hc
 simp only [Bool.and_eq_true,decide_eq_true_eq,List.all_eq_true,List.mem_range] at hc
 obtain ⟨⟨hc1,hc2⟩,hc3⟩:=hc
 intro he
 obtain ⟨m,h1,h2,h3⟩:=least (f:=fun j=>listed.getD j true) ops.size ⟨L,hc3,hL⟩
 have:m ∈ Region.ready .any ops listed:=ready_mem.2 ⟨h1,h2,by
  have h4:=hc1 m h1
  cases hm:ops[m]? with
  | none=>rw [hm] at h4; cases h4
  | some om =>
   rw [hm] at h4
   show (om.after.all fun e => !Region.binds .any e||listed.getD e.on false)=true
   have h4:(om.after.all fun e => !Region.binds .any e||decide (e.on<m))=true:=h4
   rw [Array.all_eq_true'] at h4 ⊢
   intro e he
   have h5:=h4 e he
   rw [Bool.or_eq_true,decide_eq_true_eq] at h5
   rw [Bool.or_eq_true]
   rcases h5 with h5|h5
   ·exact .inl h5
   ·refine .inr ?_
    have h6:=h3 e.on h5
    rw [getD_in oM] at h6 ⊢
    exact h6⟩
 rw [he] at this
 cases this
theorem cut_last (hc:cutLB ops L=true) {listed:Array Bool} (hsz:listed.size=ops.size) (hi:L ∈ Region.ready .any ops listed):Region.ready .any ops (listed.setIfInBounds L true)=[]:=by
 unfold cutLB at hc
 simp only [Bool.and_eq_true,decide_eq_true_eq,List.all_eq_true,List.mem_range] at hc
 obtain ⟨⟨hc1,hc2⟩,hc3⟩:=hc
 refine ready_none (by simpa using hsz) fun j hj => ?_
 rw [set_at oM]
 by_cases hji:j=L
 ·rw [if_pos hji]
 ·rw [if_neg hji]
  cases hv:listed.getD j true with
  | true=>rfl
  | false =>
   exfalso
   obtain ⟨h1,h2,h3⟩:=ready_mem.1 hi
   have h4:=hc2 j hj
   rw [Bool.or_eq_true] at h4
   rcases h4 with h4|h4
   ·exact hji (by simpa using h4)
   ·cases hm:ops[L]? with
    | none=>rw [hm] at h4; cases h4
    | some om =>
     rw [hm] at h3 h4
     have h3:(om.after.all fun e => !Region.binds .any e||listed.getD e.on false)=true:=h3
     have h4:(om.after.any fun e=>Region.binds .any e&&e.on == j)=true:=h4
     rw [Array.any_eq_true'] at h4
     obtain ⟨e,he,h5⟩:=h4
     rw [Bool.and_eq_true,beq_iff_eq] at h5
     have h6:=Array.all_eq_true'.1 h3 e he
     rw [h5.1,h5.2,getD_in oM] at h6
     rw [getD_in oM] at hv
     rw [hv] at h6
     cases h6
theorem cut_keep {listed:Array Bool} {i:Nat} (hl:L<listed.size) (hi:i ∈ Region.ready .any ops listed) (hiL:i≠L):i ∈ Region.ready .any ops (listed.setIfInBounds L true):=by
 obtain ⟨h1,h2,h3⟩:=ready_mem.1 hi
 refine ready_mem.2 ⟨h1,by rw [set_at hl,if_neg hiL]; exact h2,?_⟩
 cases hm:ops[i]? with
 | none=>rw [hm] at h3; cases h3
 | some om =>
  rw [hm] at h3
  have h3:(om.after.all fun e => !Region.binds .any e||listed.getD e.on false)=true:=h3
  show (om.after.all fun e => !Region.binds .any e||(listed.setIfInBounds L true).getD e.on false)=true
  rw [Array.all_eq_true'] at h3 ⊢
  intro e he
  have h5:=h3 e he
  rw [Bool.or_eq_true] at h5 ⊢
  rcases h5 with h5|h5
  ·exact .inl h5
  ·refine .inr ?_
   rw [set_at hl]
   split
   ·rfl
   ·exact h5
theorem cut_any (hc:cutLB ops L=true) (hLs:L<ops.size) {Q:Exit→Act→World→Prop}:∀ (fuel:Nat) (listed:Array Bool) (a:Act) (w:World),listed.size=ops.size→listed.getD L true=false →
  wpAny P .any ops (Exit.then (fun a w=>wpOp P ops Q L (Q .normal) a w) Q) fuel (listed.setIfInBounds L true) a w→wpAny P .any ops Q (fuel+1) listed a w:=by
 intro fuel
 induction fuel with
 | zero =>
  intro listed a w hsz hL h
  refine ⟨fun he=>absurd he (cut_some hc hsz hL),fun i hi => ?_⟩
  by_cases hiL:i=L
  ·subst hiL
   exact wpOp_mono (fun a' w' hq'=>any_done (cut_last hc hsz hi) hq' _) (show wpOp P ops Q i (Q .normal) a w from h.2)
  ·have:=cut_keep oM hi hiL
   rw [h.1] at this
   cases this
 | succ fuel ih =>
  intro listed a w hsz hL h
  refine ⟨fun he=>absurd he (cut_some hc hsz hL),fun i hi => ?_⟩
  by_cases hiL:i=L
  ·subst hiL
   exact wpOp_mono (fun a' w' hq'=>any_done (cut_last hc hsz hi) hq' _) (show wpOp P ops Q i (Q .normal) a w from h.1 (cut_last hc hsz hi))
  ·refine wpOp_then (wpOp_mono (fun a' w' hq' => ?_) (h.2 i (cut_keep oM hi hiL)))
   refine ih _ a' w' (by simpa using hsz) (by
    have hi1:=(ready_mem.1 hi).1
    rw [set_at oM,if_neg (Ne.symm hiL)]
    exact hL) ?_
   rw [set_set]
   exact hq'
theorem PW.cutl {Q:Exit→St→Prop} {s:St} {id:Nat} (L:Nat) (hs:List Nat) (hm:P.follows .mixedOrders=true) (ho:ops[L]? = some o) (hc:cutLB ops L=true) {n:Nat} (hn:ops.size=n+1) (h:PO P N ops hs n ((Array.replicate ops.size false).setIfInBounds L true) (thenD (PL P N ops [o] Q) Q) s):PW P N (.region id ops true) Q s:=fun κ B ρ a w hI=>by
 have hb:Below w.heap.size w w.drew:=⟨rfl,rfl,rfl,Nat.le_refl _,fun _ _=>rfl⟩
 have hL:L<ops.size:=(Array.getElem?_eq_some_iff.1 ho).1
 refine wp_region_any hm ?_
 have h1:=wpAny_of_held _ _ _ _ (h κ B ρ a w w.drew (hI.later hb) (BelB.of_below hb hI.big))
 have e1:lift κ B N w (thenD (PL P N ops [o] Q) Q)=Exit.then (lift κ B N w (thenD (PL P N ops [o] Q) Q) .normal) (lift κ B N w Q):=by
  funext e a' w'
  cases e <;> rfl
 have e2:Exit.then (lift κ B N w Q .normal) (lift κ B N w Q)=lift κ B N w Q:=by
  funext e a' w'
  cases e <;> rfl
 rw [e1] at h1
 have h2:=any_then (K':=fun a' w'=>wpOp P ops (lift κ B N w Q) L (lift κ B N w Q .normal) a' w') (fun a' w' hk=>by
  obtain ⟨s',ρ',k1,k2,k3⟩:=hk
  refine wpOp_of ho ?_
  rw [e2]
  exact k1 κ B ρ' a' w w' k2 k3) _ _ _ _ h1
 have h3:=cut_any hc hL n (Array.replicate ops.size false) a w.drew (by simp) (by rw [getD_in (by simpa using hL)]; simp) h2
 rw [← hn] at h3
 exact h3
end
end Go.Proofs.YtdomlccfjnkbjaaGreatDoor.Dp
namespace Go.Proofs.YtdomlccfjnkbjaaGreatDoor.Pl
open Go.RowKit Go.Proofs.YtdomlccfjnkbjaaGreatDoor.Sm Go.Proofs.YtdomlccfjnkbjaaGreatDoor.Dp
open Go.Proofs.YtdomlccfjnkbjaaGreatDoor.Wr
open Go.Proofs.YtdomlccfjnkbjaaGreatDoor.Fr (runP runP_ok runP_error numP stOf first)
set_option maxHeartbeats 4000000
set_option maxRecDepth 100000
set_option linter.unusedVariables false
set_option linter.unusedSimpArgs false
theorem read_end {x:List UInt8} {F:Fr.Frame} {o:Option (Int×Nat)} {p:Nat} {s:Except (Int×Nat) Nat} (hx:1≤x.length) (hE:EndX x F s) (hs:s=stOf o p):Fr.readX x=match o with|some z => .error z|none=>if p<x.length then .error (3,p) else .ok F:=by
 rw [Fr.readX_run hx]
 obtain ⟨h1,h2⟩:=hE
 subst hs
 cases hf:Fr.frameX x 0 with
 | error z =>
  rw [runP_error hf] at h1
  cases o with
  | none=>cases h1
  | some y=>injection h1 with h1; subst h1; rfl
 | ok r =>
  rw [runP_ok hf] at h1 h2
  cases o with
  | some y=>cases h1
  | none =>
   have h3:r.1=F:=h2 r.2 h1.symm
   injection h1 with h1
   subst h1
   subst h3
   rfl
def RdR (e:Nat→Addr) (r:Except (Int×Nat) Fr.Frame) (d:D):Prop:=(∃ z,r = .error z∧d=D.t [D.r (Fr.frC (Fr.bare 0 0 0) (.v (.slice none 0 0)) (.v (.slice none 0 0))),erD e (some z)])∨(∃ F,r = .ok F∧d=D.t [D.r (Fr.frD F),.v .nilIface])∨∃ z,r = .error z∧d=D.t [D.r (Fr.frC (Fr.bare 0 0 0) (.v (.slice none 0 0)) (.v (.slice none 0 0))),.i 139 (.q [sentD e (erK z.1),I (z.2:Int)] 0)]
theorem RdR.coarse {e:Nat→Addr} {r:Except (Int×Nat) Fr.Frame} {d:D} (h:RdR e r d):∃ d',d'=D.t [D.r (Fr.frD (Fr.frOf r)),erD e (Fr.errOf r)]∧∀ (w:World) (ok:Nat→Prop) (v:Value),RepC w ok d v→RepC w ok d' v:=by
 refine ⟨_,rfl,fun w ok v hv => ?_⟩
 rcases h with ⟨z,rfl,rfl⟩|⟨F,rfl,rfl⟩|⟨z,rfl,rfl⟩ <;> cases hv with
 | t hl hd =>
  refine .t hl fun j d u a b => ?_
  match j,a with
  | 0,a=>cases a; first|exact hd 0 _ u rfl b|exact Fr.rep_frD (.inr ⟨rfl,rfl⟩) (.inr ⟨rfl,rfl⟩) (hd 0 _ u rfl b)
  | 1,a =>
   cases a
   have h1:=hd 1 _ u rfl b
   first
   | exact h1
   | (cases h1; exact .e0)
   | (cases h1 with|i h1=>exact .e1 h1)
  | j+2,a=>exact absurd a (by simp)
theorem read_pc0 (e:Nat→Addr) (x:List UInt8) (hx:x.length≤1000000) (hx1:1≤x.length):PC Tryz.prog (errG4 e) 92 [bytesD x] (RdR e (Fr.readX x)):=by
 refine PC.of (N:=39) Tryz.func92 rfl rfl (Nat.le_of_ble_eq_true rfl) ?_
 have hS0:SO e x (.ok 0) (rmem e x 0 false none):=⟨0,false,none,rfl,Nat.zero_le _,rfl,fun _=>rfl⟩
 refine PW.a [0,2] 1 (PW.w 1 [0,2,6] 1 (PL.ci (G:=(errG4 e)) (PI.more (wrNew_pi x hx)) ?_))
 rintro _ _ ⟨rfl,rfl⟩
 refine PL.sl [0,2,7] 2 (PL.sl [0,2,7] 2 (PL.build (cs:=[D.p 1 0 0 0,D.v (.nilIface)]) rfl kR kR kR (PL.n 2 [0,2,4] 3 (PW.w 1 [0,2,4,10] 3 (PL.ci (frame_pi e x hx hx1 hS0) ?_)))))
 rintro _ _ ⟨F,s1,hE,rfl,hS1⟩
 obtain ⟨p1,bad1,o1,rfl,hp1,hq1,hb1⟩:=id hS1
 refine PL.sl [0,2,4,11] 3 (PL.n 2 [0,2,4,5] 4 (PW.seq (PW.w 4 [0,2,4,5,15] 4 (PL.bo (G:=(errG4 e)) (ps:=[]) trivial (PC.more (wrAt_pc x p1 bad1)) (PL.n 3 [2,4,5,19] 4 (PW.cd (decide ((p1:Int)<(x.length:Int))) ?_ ?_)))))) <;> intro hz0 <;> try simp only [boolS] at hz0
 ·refine PW.open [0,1,2,3] kR ?_
  refine PO.a [0,1,2,3,4] 8 [2,4,5,20,21,24] 3 (PO.one (n:=2) 5 kR (PO1.val [2,4,5,20,21,25] 4 (s':={ tab:=[⟨2,[],D.p 0 0 0 0⟩,⟨4,[],D.p 2 0 0 0⟩,⟨5,[],D.p 3 0 0 0⟩,⟨20,[],D.p 2 0 0 0⟩,⟨21,[],sentD e 11⟩,⟨25,[],D.p 1 0 0 0⟩],mem:=(rmem e x p1 bad1 o1++[Obj.var 25 [I F.kind,I F.part,I F.node,I F.wait,I F.mask,I F.link,D.v (.bool F.flag),I F.cycle,I F.offset,sl' 1 (fun x=>[I x]) F.ages,I F.frm,I F.to,I F.seq,bytesD F.body]]),gl:=(errG4 e) }) (p:=True) rfl kR kR kR kR kR kR kR kR (by trivial) (PO.one (n:=1) 6 kR ?_)))
  refine PO1.bo (G:=(errG4 e)) (ps:=[]) _ trivial (PC.more (wrAt_pc x p1 bad1)) ?_ rfl
  refine PO.one (n:=0) 7 kR ?_
  refine PO1.ci _ (G:=(errG4 e)) (PI.more (PI.frame [Obj.var 25 [I F.kind,I F.part,I F.node,I F.wait,I F.mask,I F.link,D.v (.bool F.flag),I F.cycle,I F.offset,sl' 1 (fun x=>[I x]) F.ages,I F.frm,I F.to,I F.seq,bytesD F.body]] (fail_pj e x p1 bad1 o1 (by first|omega|exact atN_le oM) hx 3 p1 11 (by decide) (p1:Int) rfl) (fun _ _ h=>by rw [h.2]; rfl))) ?_ rfl
  rintro _ _ ⟨_,rfl,rfl,rfl⟩
  refine PO.sel [2,4,5] 4 rfl kR (PO.done kR ?_)
  show PW _ _ _ _ _
  refine PW.seq (PW.w 4 [2,4,5,31] 4 (PL.en (A:=[]) ((first o1 (3,p1)).isSome) 139 (D.q [sentD e (erO (first o1 (3,p1))),I (erA (first o1 (3,p1)):Int)] 0) ((first o1 (3,p1)).isSome) (by first|exact .inl ⟨rfl,rfl⟩|exact .inr ⟨rfl,rfl⟩) rfl rfl kR (PL.nl (PW.cd ((first o1 (3,p1)).isSome) ?_ ?_)))) <;> intro hz1 <;> try simp only [boolS] at hz1
  ·refine PW.seq (PW.open [0] kR ?_)
   refine PO.a [0,1,2,3,4] 7 [2,33,37] 2 (PO.one (n:=1) 5 kR ?_)
   refine PO1.a [2,37] 4 ?_
   refine PO.a [6] 1 [2,3] 0 (PO.done kR ?_)
   show PW _ _ _ _ _
   refine PW.ret (rq (D.t [D.r [I 0,I 0,I 0,I 0,I 0,I 0,D.v (.bool false),I 0,I 0,D.v (.slice none 0 0),I 0,I 0,I 0,D.v (.slice none 0 0)],D.e ((first o1 (3,p1)).isSome) 139 (D.q [sentD e (erO (first o1 (3,p1))),I (erA (first o1 (3,p1)):Int)] 0)]) ?_)
   obtain ⟨z,hz⟩:=isSome_some hz1
   have hr:=read_end hx1 hE hq1
   rw [hz]
   refine .inl ⟨z,?_,rfl⟩
   rw [hr]
   cases o1 with
   | some y=>injection hz with hz; subst hz; rfl
   | none=>injection hz with hz; subst hz; exact if_pos oM
  ·refine PW.k (PW.t [2,3] 4 (rq (D.t [D.r [I F.kind,I F.part,I F.node,I F.wait,I F.mask,I F.link,D.v (.bool F.flag),I F.cycle,I F.offset,sl' 1 (fun x=>[I x]) F.ages,I F.frm,I F.to,I F.seq,bytesD F.body],D.v (.nilIface)]) ?_))
   exfalso
   cases o1 <;> simp [first] at hz1
 ·refine PW.k (PW.seq (PW.w 4 [2,4,5,31] 4 (PL.en (A:=[]) o1.isSome 139 (D.q [sentD e (erO o1),I (erA o1:Int)] 0) o1.isSome (by first|exact .inl ⟨rfl,rfl⟩|exact .inr ⟨rfl,rfl⟩) rfl rfl kR (PL.nl (PW.cd o1.isSome ?_ ?_))))) <;> intro hz2 <;> try simp only [boolS] at hz2
  ·refine PW.seq (PW.open [0] kR ?_)
   refine PO.a [0,1,2,3,4] 7 [2,33,37] 2 (PO.one (n:=1) 5 kR ?_)
   refine PO1.a [2,37] 4 ?_
   refine PO.a [6] 1 [2,3] 0 (PO.done kR ?_)
   show PW _ _ _ _ _
   refine PW.ret (rq (D.t [D.r [I 0,I 0,I 0,I 0,I 0,I 0,D.v (.bool false),I 0,I 0,D.v (.slice none 0 0),I 0,I 0,I 0,D.v (.slice none 0 0)],D.e o1.isSome 139 (D.q [sentD e (erO o1),I (erA o1:Int)] 0)]) ?_)
   obtain ⟨z,rfl⟩:=isSome_some hz2
   exact .inl ⟨z,read_end hx1 hE hq1,rfl⟩
  ·refine PW.k (PW.t [2,3] 4 (rq (D.t [D.r [I F.kind,I F.part,I F.node,I F.wait,I F.mask,I F.link,D.v (.bool F.flag),I F.cycle,I F.offset,sl' 1 (fun x=>[I x]) F.ages,I F.frm,I F.to,I F.seq,bytesD F.body],D.v (.nilIface)]) ?_))
   obtain rfl:=isSome_none hz2
   exact .inr (.inl ⟨F,(read_end hx1 hE hq1).trans (if_neg oM),rfl⟩)
theorem read_pc (e:Nat→Addr) (x:List UInt8) (hx:x.length≤1000000) (hx1:1≤x.length):PC Tryz.prog (errG4 e) 92 [bytesD x] (· = D.t [D.r (Fr.frD (Fr.frOf (Fr.readX x))),erD e (Fr.errOf (Fr.readX x))]):=(read_pc0 e x hx hx1).coarse fun d h=>h.coarse
theorem sopen_pc (l:List UInt8) (hs:l.length≤1000000):PC Tryz.prog [] 91 [bytesD l] (· = .t [bytesD (inner l),.v (.bool (isSealed l))]):=by
 intro κ w vs hκ _ hl hd
 match vs,hl with
 | [v],_ =>
  obtain ⟨a,c,rfl,hr⟩:=rep_bytes (hd 0 _ _ rfl rfl) hκ
  refine Calls.mono (open_calls a _ c l w hr hs) fun e w' ⟨v,h1,h2⟩=>⟨_,_,h1,rfl,.t (vs:=[v,.bool (isSealed l)]) rfl fun j d u k1 k2 => ?_,h2.2⟩
  match j,k1,k2 with
  | 0,k1,k2 =>
   cases k1
   cases k2
   exact (made_rep h2).mono fun b hb=>⟨⟨.inr hb.1,hb.2⟩,rfl⟩
  | 1,k1,k2=>cases k1; cases k2; exact .v _
theorem open_pc0 (e:Nat→Addr) (b:List UInt8) (hb:b.length≤1000000):PC Tryz.prog (errG4 e) 61 [bytesD b] (fun d=>RdR e (Fr.decX b) d∨d=D.t [D.r (Fr.frD (Fr.frOf (Fr.decX b))),erD e (Fr.errOf (Fr.decX b))]):=by
 refine PC.of (N:=33) Tryz.func61 rfl rfl (Nat.le_of_ble_eq_true rfl) ?_
 refine PW.a [0,2] 1 (PW.q [0,2,8] 1 (PW.cd (decide ((b.length:Int)<(7:Int))) ?_ ?_)) <;> intro hz0 <;> try simp only [boolS] at hz0
 ·refine PW.oj ({ tab:=[⟨2,[],D.p 0 0 0 0⟩,⟨3,[],D.i 139 (D.q [sentD e 8,I 0] 0)⟩],mem:=[fr0,Obj.dead],gl:=(errG4 e) }) ?_ ?_
  ·show PW _ _ _ _ _
   refine PW.ret (rq (D.t [D.r [I 0,I 0,I 0,I 0,I 0,I 0,D.v (.bool false),I 0,I 0,D.v (.slice none 0 0),I 0,I 0,I 0,D.v (.slice none 0 0)],D.i 139 (D.q [sentD e 8,I 0] 0)]) ?_)
   exact .inl (.inr (.inr ⟨(2,0),if_pos oM,rfl⟩))
  ·skip
   refine PW.open [0] kR ?_
   refine PO.a [0,1,2] 7 [2,9,11] 4 (PO.next (n:=3) [3,5] kR (by simp) ?_)
   intro i hi
   simp only [List.mem_cons,List.not_mem_nil,or_false] at hi
   rcases hi with rfl|rfl
   ·skip
    refine PO1.a [2,9,12] 2 (PO.fz 1 (t:=141) [sentD e 8,I 0] ?_)
    refine PO.a [4] 3 [2,9,13] 2 (PO.one (n:=1) 5 kR ?_)
    refine PO1.a [2,13] 2 ?_
    refine PO.a [6] 1 [2,3] 0 (PO.done kR ?_)
    exact (show _=_ from by kernel_rfl)
   ·skip
    refine PO1.a [2,11] 1 (PO.one (n:=2) 3 kR ?_)
    refine PO1.a [2,12] 2 (PO.fz 1 (t:=141) [sentD e 8,I 0] ?_)
    refine PO.a [4,6] 2 [2,3] 0 (PO.done kR ?_)
    exact (show _=_ from by kernel_rfl)
 ·refine PW.k (PW.w 1 [0,2,15] 1 (PL.gc (G:=(errG4 e)) (A:=[]) (fun _=>PC.more (sopen_pc b hb)) (PL.n 5 [0,2,4,5] 1 (PW.q [0,2,4,20] 1 (PW.cd (!(isSealed b)) ?_ ?_))))) <;> intro hz1 <;> try simp only [boolS] at hz1
  ·refine PW.oj ({ tab:=[⟨2,[],D.p 0 0 0 0⟩,⟨3,[],D.i 139 (D.q [sentD e 9,I (IntKind.i64.wrap ((b.length:Int)-4))] 0)⟩],mem:=[fr0,Obj.dead],gl:=(errG4 e) }) ?_ ?_
   ·show PW _ _ _ _ _
    refine PW.ret (rq (D.t [D.r [I 0,I 0,I 0,I 0,I 0,I 0,D.v (.bool false),I 0,I 0,D.v (.slice none 0 0),I 0,I 0,I 0,D.v (.slice none 0 0)],D.i 139 (D.q [sentD e 9,I (IntKind.i64.wrap ((b.length:Int)-4))] 0)]) ?_)
    refine .inl (.inr (.inr ⟨(4,b.length-4),?_,?_⟩))
    · unfold Fr.decX
      rw [if_neg oM,if_neg (by rw [hz1]; decide)]
    · rw [show IntKind.i64.wrap ((b.length:Int)-4)=((b.length-4:Nat):Int) by rw [Ev.wrap_i64 oM oM]; omega]
      rfl
   ·skip
    refine PW.open [0] kR ?_
    refine PO.a [0,1,2,3,4,5] 10 [2,21,26] 4 (PO.next (n:=3) [6,8] kR (by simp) ?_)
    intro i hi
    simp only [List.mem_cons,List.not_mem_nil,or_false] at hi
    rcases hi with rfl|rfl
    ·skip
     refine PO1.a [2,21,27] 2 (PO.fz 1 (t:=141) [sentD e 9,I (IntKind.i64.wrap ((b.length:Int)-4))] ?_)
     refine PO.a [7] 3 [2,21,28] 2 (PO.one (n:=1) 8 kR ?_)
     refine PO1.a [2,28] 2 ?_
     refine PO.a [9] 1 [2,3] 0 (PO.done kR ?_)
     exact (show _=_ from by kernel_rfl)
    ·skip
     refine PO1.a [2,26] 1 (PO.one (n:=2) 6 kR ?_)
     refine PO1.a [2,27] 2 (PO.fz 1 (t:=141) [sentD e 9,I (IntKind.i64.wrap ((b.length:Int)-4))] ?_)
     refine PO.a [7,9] 2 [2,3] 0 (PO.done kR ?_)
     exact (show _=_ from by kernel_rfl)
  ·refine PW.k (PW.w 1 [2,29] 1 (PL.gc (A:=[]) (fun _=>read_pc e (inner b) (by rw [inner_yes hz1,List.length_take]; omega) (by rw [inner_yes hz1,List.length_take]; omega)) (PL.n 4 [2,3] 1 (PW.ret (rq (D.t [D.r [I ((Fr.frOf (Fr.readX (inner b))).kind),I ((Fr.frOf (Fr.readX (inner b))).part),I ((Fr.frOf (Fr.readX (inner b))).node),I ((Fr.frOf (Fr.readX (inner b))).wait),I ((Fr.frOf (Fr.readX (inner b))).mask),I ((Fr.frOf (Fr.readX (inner b))).link),D.v (.bool ((Fr.frOf (Fr.readX (inner b))).flag)),I ((Fr.frOf (Fr.readX (inner b))).cycle),I ((Fr.frOf (Fr.readX (inner b))).offset),sl' 1 (fun x=>[I x]) ((Fr.frOf (Fr.readX (inner b))).ages),I ((Fr.frOf (Fr.readX (inner b))).frm),I ((Fr.frOf (Fr.readX (inner b))).to),I ((Fr.frOf (Fr.readX (inner b))).seq),bytesD ((Fr.frOf (Fr.readX (inner b))).body)],D.e ((Fr.errOf (Fr.readX (inner b))).isSome) 139 (D.q [sentD e (erO (Fr.errOf (Fr.readX (inner b)))),I (erA (Fr.errOf (Fr.readX (inner b))):Int)] 0)]) ?_)))))
   refine .inr ?_
   have hd:Fr.decX b=Fr.readX (inner b):=by
     unfold Fr.decX
     rw [if_neg oM,if_pos hz1,inner_yes hz1]
   rw [hd]
   rfl
theorem open_pc (e:Nat→Addr) (b:List UInt8) (hb:b.length≤1000000):PC Tryz.prog (errG4 e) 61 [bytesD b] (· = D.t [D.r (Fr.frD (Fr.frOf (Fr.decX b))),erD e (Fr.errOf (Fr.decX b))]):=(open_pc0 e b hb).coarse fun d h=>h.elim RdR.coarse fun h=>⟨d,h,fun w ok v hv=>hv⟩
end Go.Proofs.YtdomlccfjnkbjaaGreatDoor.Pl
