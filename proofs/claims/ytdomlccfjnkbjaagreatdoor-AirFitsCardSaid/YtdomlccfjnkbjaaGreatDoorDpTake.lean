/- Deep reckoning: functions that take a row over from their caller and give one back, the same or another (append). No function of the program in it. -/
import Derived.Test.YtdomlccfjnkbjaaGreatDoorDpC
namespace Go.Proofs.YtdomlccfjnkbjaaGreatDoor.Dp
open Go.RowKit Go.Proofs.YtdomlccfjnkbjaaGreatDoor.Sm
open Go.Proofs.YtdomlccfjnkbjaaGreatDoor.Ev (Obl opnds dstB PT nx pt_put undef_bool pickB isRow_false seenL seenR seen_all resRun)
set_option maxHeartbeats 1000000
set_option linter.unusedVariables false
set_option linter.unusedSimpArgs false
def PX (P:Program) (G:List (Nat×List D)) (f:FuncId) (ds:List D) (ob:Obj) (R:Nat→Obj→Prop):Prop :=
 ∀ (κ : Nat→Prop) (w:World) (x:Option (Nat×Nat)) (vs:List Value),(∀ g,κ g→g<w.heap.size)→(∀ y,x=some y→y.1<w.heap.size∧¬ κ y.1)→(∀ y ∈ G,GlC w κ y)→ObjC w κ x ob→vs.length=ds.length→(∀ (j:Nat) (d:D) (v:Value),ds[j]? = some d→vs[j]? = some v→RepO w κ [x] d v) →
  Calls P f vs.toArray w fun e w'=>∃ v n ob' x',e = .returned v∧R n ob'∧RepO w' (fun g=>(κ g∨w.heap.size≤g∨∃ c,x=some (g,c))∧g<w'.heap.size∧∀ c,x'≠some (g,c)) [x'] (.h 0 n) v∧ObjC w' (fun g=>(κ g∨w.heap.size≤g∨∃ c,x=some (g,c))∧g<w'.heap.size∧∀ c,x'≠some (g,c)) x' ob'∧(∀ y,x'=some y→y.1<w'.heap.size∧(w.heap.size≤y.1∨∃ c,x=some (y.1,c))) ∧
   w'.os=w.os∧w'.tape=w.tape∧w'.output=w.output∧w.heap.size≤w'.heap.size∧∀ k,k<w.heap.size→(∀ c,x≠some (k,c))→w'.heap[k]? = w.heap[k]?
theorem get_one {x:Option (Nat×Nat)} (b:Nat) (y:Option (Nat×Nat)) (h:[x][b]? = some y):b=0∧y=x:=by
 cases b with
 | zero=>simp only [List.getElem?_cons_zero,Option.some.injEq] at h; exact ⟨rfl,h.symm⟩
 | succ b=>simp at h
theorem PX.of {P:Program} {G:List (Nat×List D)} {f:FuncId} {ds:List D} {ob:Obj} {R:Nat→Obj→Prop} (h:PK P G f ds [ob] 0 fun d m=>∃ n ob',d = .h 0 n∧m=[ob']∧ob'.shutB=true∧R n ob'):PX P G f ds ob R:=by
 intro κ w x vs hκ hx hG hob hl hd
 have hkw:∀ g,κ g→okW (fun g => κ g∨w.heap.size≤g∨∃ c,x=some (g,c)) w [x] g:=fun g hg=>⟨⟨.inl hg,hκ g hg⟩,fun b' y hy e=>(hx y (get_one b' _ hy).2.symm).2 (by rw [e]; exact hg)⟩
 refine (h (fun g => κ g∨w.heap.size≤g∨∃ c,x=some (g,c)) w [x] vs ⟨rfl,fun b y hy => ?_,fun b b' y y' h1 h2 _=>by rw [(get_one b _ h1).1,(get_one b' _ h2).1],fun b o hm => ?_⟩ (fun g hg => .inr (.inl hg)) (fun y hy=>(hG y hy).mono fun b hb=>⟨hkw b hb,rfl⟩) hl fun j d v h1 h2=>(hd j d v h1 h2).keep hkw).mono ?_
 ·obtain ⟨rfl,h2⟩:=get_one b _ hy
  exact ⟨.inr (.inr ⟨y.2,h2.symm⟩),(hx y h2.symm).1⟩
 ·cases b with
  | zero =>
   simp only [List.getElem?_cons_zero,Option.some.injEq] at hm
   subst hm
   exact hob.to rfl hkw
  | succ b=>simp at hm
 rintro e w' ⟨v,d,mem',ρ',rfl,⟨n,ob',rfl,rfl,hsh,hr⟩,hrep,hM,_,hnew,k1,k2,k3,k4,k5⟩
 obtain ⟨x',rfl⟩:∃ x',ρ'=[x']:=by
  have:=hM.len
  match ρ',this with
  | [x'],_=>exact ⟨x',rfl⟩
 have hok:∀ g,okW (fun g => κ g∨w.heap.size≤g∨∃ c,x=some (g,c)) w' [x'] g→((κ g∨w.heap.size≤g∨∃ c,x=some (g,c))∧g<w'.heap.size∧∀ c,x'≠some (g,c)):=fun g hg=>⟨hg.1.1,hg.1.2,fun c hc=>hg.2 0 (g,c) (by rw [hc]; rfl) rfl⟩
 refine ⟨v,n,ob',x',rfl,hr,hrep.keep hok,?_,fun y hy=>⟨(hM.own 0 y (by rw [hy]; rfl)).2,?_⟩,k1,k2,k3,k4,fun k hk hn=>k5 k hk fun b c hb=>hn c (get_one b _ hb).2.symm⟩
 ·have h1:=ObjC.of (hM.mem 0 ob' rfl) hsh rfl
  have hm:∀ g,okW (fun g => κ g∨w.heap.size≤g∨∃ c,x=some (g,c)) w' [x'] g→_∧w'.heap[g]? = w'.heap[g]? := fun g hg=>⟨hok g hg,rfl⟩
  cases ob' with
  | dead=>exact h1
  | var t cs =>
   obtain ⟨g,vs,q1,q2,q3,q4⟩:=h1
   exact ⟨g,vs,q1,q2,q3,fun j d v a b=>(q4 j d v a b).mono hm⟩
  | row t z n f =>
   rcases h1 with q|⟨g,c,cur,q1,q2,q3,q4,q5,q6⟩
   ·exact .inl q
   ·refine .inr ⟨g,c,cur,q1,q2,q3,q4,q5,fun i hi=>⟨(q6 i hi).1,(q6 i hi).2.1,fun j d hj => ?_⟩⟩
    obtain ⟨v,r1,r2⟩:=(q6 i hi).2.2 j d hj
    exact ⟨v,r1,r2.mono hm⟩
 ·rcases hnew 0 y (by rw [hy]; rfl) with h1|⟨i,z,q1,q2⟩
  ·exact .inl h1
  ·obtain ⟨_,q3⟩:=get_one i _ q1
   exact .inr ⟨z.2,by rw [← q3,← q2]⟩
theorem PX.more {P:Program} {G:List (Nat×List D)} {f:FuncId} {ds:List D} {ob:Obj} {R:Nat→Obj→Prop} (h:PX P [] f ds ob R):PX P G f ds ob R:=fun κ w x vs h1 h2 _ h4 h5 h6=>h κ w x vs h1 h2 (fun x hx=>(nomatch hx)) h4 h5 h6
theorem PX.nil {P:Program} {G:List (Nat×List D)} {f:FuncId} {ds:List D} {t:TypeId} {z:Nat} {f0:Nat→List D} {R:Nat→Obj→Prop} (h:PX P G f (.h 0 0::ds) (.row t z 0 f0) R):PX P G f (.v (.slice none 0 0)::ds) .dead R:=fun κ w x vs h1 h2 h3 h4 h5 h6=>by
 have hx:x=none:=h4
 subst hx
 refine h κ w none vs h1 h2 h3 (.inl ⟨rfl,rfl⟩) h5 fun j d v e1 e2 => ?_
 match j,e1 with
 | 0,e1 =>
  cases e1
  have h7:=h6 0 _ v rfl e2
  cases h7 with
  | one h7 =>
   cases h7 with
   | c h7 =>
    cases h7
    exact .one (.h0 rfl)
 | j+1,e1=>exact h6 (j+1) d v e1 e2
section
variable {κ : Nat→Prop} {B:Base} {N:Nat} {ρ ρ':Own} {s s':St} {a:Act} {w w' w0:World} {A:List (Nat×Bool)} {o:Oper} {ops:Array Oper} {P:Program} {d d':D} {v:Value} {rest l:List Oper} {Q:Exit→St→Prop} {G:List (Nat×List D)} {f:FuncId} {ds ds0:List D} {R:Nat→Obj→Prop} {c:Code} {hs:List Nat} {n i b:Nat} {listed:Array Bool} {ob:Obj}
theorem h_rep {ok ok':Nat→Prop} {x:Option (Nat×Nat)} (h:RepO w ok [x] (.h 0 n) v) (hx : ρ[b]? = some x):RepO w' ok' ρ (.h b n) v:=by
 cases h with
 | one h =>
  cases h with
  | c h=>cases h
  | h h hn =>
   obtain ⟨_,h⟩:=get_one _ _ h
   exact .one (.h (by rw [hx,← h]) hn)
  | h0 h =>
   obtain ⟨_,h⟩:=get_one _ _ h
   exact .one (.h0 (by rw [hx,← h]))
theorem callX_core (hI:Inv κ B ρ s N a w) (hc:callD P s [] o=some (f,ds0)) (hl:lendL b ds0=some ds) (hm:s.mem[b]? = some ob) (hsh:ob.shutB=true) (hfx:s.fx≤b) (hG:s.gl=G) (hpx:PX P G f ds ob R) :
  ∃ vs:List Value,(execOp a.eval o).run P w = .ok (.enter f vs.toArray) w∧Calls P f vs.toArray w fun e w'=>∃ v n ob' x',e = .returned v∧R n ob'∧RepO w' (okW κ w' (ρ.set b x')) (ρ.set b x') (.h b n) v∧Inv κ B (ρ.set b x') { s.kill b with mem:=(s.kill b).mem.set b ob' } N a w'∧BelB B w w'∧Fr [b] ρ w (ρ.set b x') w':=by
 obtain ⟨vs,h1,h2,h3⟩:=run_call hI pt_nil hc
 have hbl:b < ρ.length:=by rw [hI.len]; exact (List.getElem?_eq_some_iff.1 hm).1
 obtain ⟨x,hx⟩:∃ x,ρ[b]? = some x:=⟨_,List.getElem?_eq_getElem hbl⟩
 obtain ⟨q1,q2⟩:=lendL_rep hx hl h2 h3
 refine ⟨vs,h1,(hpx (okW κ w ρ) w x vs (fun g hg=>hg.1.2) (fun y hy=>⟨(hI.own b y (by rw [hx,hy])).2,fun hk=>hk.2 b y (by rw [hx,hy]) rfl⟩) (by rw [← hG]; exact hI.gl) (ObjC.of (hI.mem b ob hm) hsh hx) q1 q2).mono ?_⟩
 rintro e w' ⟨v,n,ob',x',rfl,hr,hrep,hoc,hx',k1,k2,k3,k4,k5⟩
 have hself:(ρ.set b x')[b]? = some x':=List.getElem?_set_self hbl
 have hback:∀ (b':Nat) (y:Option (Nat×Nat)),(ρ.set b x')[b']? = some y→(b'=b∧y=x')∨(b'≠b ∧ ρ[b']? = some y):=by
  intro b' y h
  by_cases hb:b'=b
  ·subst hb
   rw [hself] at h
   injection h with h
   exact .inl ⟨rfl,h.symm⟩
  ·rw [List.getElem?_set_ne (Ne.symm hb)] at h
   exact .inr ⟨hb,h⟩
 have hup:∀ g,((okW κ w ρ g∨w.heap.size≤g∨∃ c,x=some (g,c))∧g<w'.heap.size∧∀ c,x'≠some (g,c))→okW κ w' (ρ.set b x') g:=by
  rintro g ⟨h,hlt,hn⟩
  refine ⟨⟨?_,hlt⟩,fun b' y hy he => ?_⟩
  ·rcases h with h|h|⟨c,h⟩
   ·exact h.1.1
   ·exact hI.hκ g (.inl (Nat.le_trans hI.big h))
   ·exact hI.hκ g (hI.own b (g,c) (by rw [hx,h])).1
  ·rcases hback b' _ hy with ⟨rfl,hyx⟩|⟨hne,hy⟩
   ·exact hn y.2 (by rw [← he]; exact hyx.symm)
   ·rcases h with h|h|⟨c,h⟩
    ·exact h.2 b' y hy he
    ·have:=(hI.own b' y hy).2
     omega
    ·exact hne (hI.nd b' b y (g,c) hy (by rw [hx,h]) he)
 have hkeep:∀ k,k<w.heap.size→(∀ c,ρ[b]? ≠ some (some (k,c)))→w'.heap[k]? = w.heap[k]? := fun k hk hne=>k5 k hk fun c hc=>hne c (by rw [hx,hc])
 refine ⟨v,n,ob',x',rfl,hr,h_rep hrep hself,inv_take hI hbl k4 hfx (fun y hy => ?_) hkeep (hoc.to hself hup),⟨k1,k2,k3,k4,fun k hk hn=>k5 k (Nat.lt_of_lt_of_le hk hI.big) fun c hc => ?_⟩,⟨fun k hk hne=>hkeep k hk (hne b (List.mem_singleton.2 rfl)),fun b1 k c1 h hk => ?_⟩⟩
 ·obtain ⟨h4,h5⟩:=hx' y hy
  rcases h5 with h5|⟨c,h5⟩
  ·exact ⟨.inl (Nat.le_trans hI.big h5),h4,.inl h5⟩
  ·exact ⟨(hI.own b (y.1,c) (by rw [hx,h5])).1,h4,.inr ⟨c,by rw [hx,h5]⟩⟩
 ·rcases (hI.own b (k,c) (by rw [hx,hc])).1 with h|h
  ·exact absurd hk (Nat.not_lt.2 h)
  ·exact hn h
 ·rcases hback b1 _ h with ⟨rfl,hy⟩|⟨_,hy⟩
  ·obtain ⟨_,h5⟩:=hx' (k,c1) hy.symm
   rcases h5 with h5|⟨c,h5⟩
   ·exact absurd hk (Nat.not_lt.2 h5)
   ·exact ⟨c,by rw [hx,h5]⟩
  ·exact ⟨c1,hy⟩
theorem PL.callX (b:Nat) (hA:gpath ops s o=some []) (hd:dstB N [] o.dst=true) (hc:callD P s [] o=some (f,ds0)) (hl:lendL b ds0=some ds) (hm:s.mem[b]? = some ob) (hsh:ob.shutB=true) (hfx:s.fx≤b) (hG:s.gl=G) (hpx:PX P G f ds ob R) (k:∀ n ob',R n ob'→PL P N ops rest Q (({ s.kill b with mem:=(s.kill b).mem.set b ob' }:St).put o.dst [] (.h b n))):PL P N ops (o::rest) Q s:=fun κ B ρ a w0 w hI hb0=>by
 obtain ⟨vs,h1,h2⟩:=callX_core hI hc hl hm hsh hfx hG hpx
 refine BigFrame.wpList_want (gpath_nil hI hA) fun K hK => ?_
 unfold Oper.wp
 rw [h1,Oper.upon_enter]
 refine h2.mono ?_
 rintro e w' ⟨v,n,ob',x',rfl,hr,hrep,hI',hb,_⟩
 exact hK _ _ (k n ob' hr κ B _ _ w0 w' (inv_put hI' hd (fun _=>hrep) fun h=>absurd pt_nil h) (hb0.trans hb))
theorem PO1.callX (b:Nat) (ho:ops[i]? = some o) (hA:gpath ops s o=some []) (hd:dstB N [] o.dst=true) (hc:callD P s [] o=some (f,ds0)) (hl:lendL b ds0=some ds) (hm:s.mem[b]? = some ob) (hsh:ob.shutB=true) (hfx:s.fx≤b) (hG:s.gl=G) (hT:hs.contains b=true) (hpx:PX P G f ds ob R) {m:Nat} (k:∀ n ob',R n ob'→PO P N ops hs m (listed.setIfInBounds i true) Q (({ s.kill b with mem:=(s.kill b).mem.set b ob' }:St).put o.dst [] (.h b n))):PO1 P N ops hs m listed Q s i:=fun κ B ρ a w0 w hI hb0=>by
 obtain ⟨vs,h1,h2⟩:=callX_core hI hc hl hm hsh hfx hG hpx
 refine wpOp_of ho (BigFrame.wpList_want (gpath_nil hI hA) fun K hK => ?_)
 unfold Oper.wp
 rw [h1,Oper.upon_enter]
 refine h2.mono ?_
 rintro e w' ⟨v,n,ob',x',rfl,hr,hrep,hI',hb,hfr⟩
 have hTT:[b].all (fun b=>hs.contains b)=true:=by simpa using hT
 exact hK _ _ ⟨hfr.agree hTT hb.size,wpAnyH_monoS (hfr.agrees hTT hb.size) _ _ _ _ (k n ob' hr κ B _ _ w0 w' (inv_put hI' hd (fun _=>hrep) fun h=>absurd pt_nil h) (hb0.trans hb))⟩
theorem PW.dead (h:PW P N c Q { s with mem:=s.mem++[.dead] }):PW P N c Q s:=fun κ B ρ a w hI =>
 h κ B (ρ ++ [none]) a w (inv_new hI (Below.refl _ _) (fun y hy=>by cases hy) (by show (ρ ++ [none])[ρ.length]? = some none; simp))
theorem bind_parts {b:Nat} {z:Option (FuncId×List D)} {f:FuncId} {ds:List D} (h:z.bind (fun x=>(lendL b x.2).map fun y=>(x.1,y))=some (f,ds)):∃ ds0,z=some (f,ds0)∧lendL b ds0=some ds:=by
 obtain ⟨⟨f',ds0⟩,h1,h2⟩:=Option.bind_eq_some_iff.1 h
 obtain ⟨y,h3,h4⟩:=Option.map_eq_some_iff.1 h2
 simp only [Prod.mk.injEq] at h4
 obtain ⟨rfl,rfl⟩:=h4
 exact ⟨ds0,h1,h3⟩
theorem PL.cx (b:Nat) (hpx:PX P G f ds ob R) (k:∀ n ob',R n ob'→PL P N ops rest Q (({ s.kill b with mem:=(s.kill b).mem.set b ob' }:St).put o.dst [] (.h b n))) (hk:(gpath ops s o,dstB N [] o.dst,(callD P s [] o).bind (fun x=>(lendL b x.2).map fun y=>(x.1,y)),s.mem[b]?,ob.shutB,decide (s.fx≤b),s.gl)=(some [],true,some (f,ds),some ob,true,true,G):=by kernel_rfl):PL P N ops (o::rest) Q s:=by
 simp only [Prod.mk.injEq,decide_eq_true_eq] at hk
 obtain ⟨hA,hd,hc,hm,hsh,hfx,hG⟩:=hk
 obtain ⟨ds0,h1,h2⟩:=bind_parts hc
 exact PL.callX b hA hd h1 h2 hm hsh hfx hG hpx k
theorem PO1.cx (o:Oper) (b:Nat) {m:Nat} (hpx:PX P G f ds ob R) (k:∀ n ob',R n ob'→PO P N ops hs m (listed.setIfInBounds i true) Q (({ s.kill b with mem:=(s.kill b).mem.set b ob' }:St).put o.dst [] (.h b n))) (ho:ops[i]? = some o) (hk:(gpath ops s o,dstB N [] o.dst,(callD P s [] o).bind (fun x=>(lendL b x.2).map fun y=>(x.1,y)),s.mem[b]?,ob.shutB,decide (s.fx≤b),s.gl,hs.contains b)=(some [],true,some (f,ds),some ob,true,true,G,true):=by kernel_rfl):PO1 P N ops hs m listed Q s i:=by
 simp only [Prod.mk.injEq,decide_eq_true_eq] at hk
 obtain ⟨hA,hd,hc,hm,hsh,hfx,hG,hT⟩:=hk
 obtain ⟨ds0,h1,h2⟩:=bind_parts hc
 exact PO1.callX b ho hA hd h1 h2 hm hsh hfx hG hT hpx k
end
end Go.Proofs.YtdomlccfjnkbjaaGreatDoor.Dp
