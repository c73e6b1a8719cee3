/- Several texts in one: DpTop DpCall DpUse DpOpen DpRem DpLend DpFreeze DpArg. -/
import Derived.Test.YtkhdnlkdcikdmaaDpA
import Derived.Deep.Slices
namespace Go.Proofs.Ytkhdnlkdcikdmaa.Dp
open Go.RowKit Go.Proofs.Ytkhdnlkdcikdmaa.Sm
open Go.Proofs.Ytkhdnlkdcikdmaa.Ev (Obl opnds dstB PT nx pt_put undef_bool pickB isRow_false seenL seenR seen_all)
set_option maxHeartbeats 1000000
set_option linter.unusedVariables false
set_option linter.unusedSimpArgs false
def lift (κ : Nat→Prop) (B:Base) (N:Nat) (w:World) (Q:Exit→St→Prop):Exit→Act→World→Prop:=fun e a' w'=>∃ s' ρ',Q e s'∧Inv κ B ρ' s' N a' w'∧BelB B w w'
def PW (P:Program) (N:Nat) (c:Code) (Q:Exit→St→Prop) (s:St):Prop:=∀ κ B ρ a w,Inv κ B ρ s N a w→c.wp P (lift κ B N w Q) a w
def PL (P:Program) (N:Nat) (ops:Array Oper) (l:List Oper) (Q:Exit→St→Prop) (s:St):Prop:=∀ κ B ρ a w0 w,Inv κ B ρ s N a w→BelB B w0 w→wpList P ops (lift κ B N w0 Q) l a w
def thenD (K:St→Prop) (Q:Exit→St→Prop):Exit→St→Prop
 | .normal,s=>K s
 | e,s=>Q e s
def inBlockD (id:Nat) (Q:Exit→St→Prop):Exit→St→Prop
 | .exit id',s=>if id'=id then Q .normal s else Q (.exit id') s
 | e,s=>Q e s
section
variable {P:Program} {N:Nat} {ops:Array Oper} {l rest:List Oper} {o:Oper} {Q Q':Exit→St→Prop} {s s':St} {c x y:Code}
theorem lift_mono {κ : Nat→Prop} {B:Base} {w w1:World} (hb:BelB B w w1) {e:Exit} {a:Act} {w2:World} (h:lift κ B N w1 Q e a w2):lift κ B N w Q e a w2:=by
 obtain ⟨s',ρ',h1,h2,h3⟩:=h
 exact ⟨s',ρ',h1,h2,hb.trans h3⟩
theorem PL.nil (h:Q .normal s):PL P N ops [] Q s:=fun κ B ρ a w0 w hI hb=>⟨s,ρ,h,hI,hb⟩
theorem PW.region {id:Nat} (h:PL P N ops ops.toList Q s):PW P N (.region id ops false) Q s:=fun κ B ρ a w hI=>wp_region_list (h κ B ρ a w w hI (BelB.refl _ _))
theorem PW.seq (h:PW P N x (thenD (PW P N y Q) Q) s):PW P N (.seq x y) Q s:=fun κ B ρ a w hI=>by
 refine wp_seq (Code.wp_mono ?_ (h κ B ρ a w hI))
 rintro e a' w' ⟨s',ρ',h1,h2,h3⟩
 cases e with
 | normal=>exact Code.wp_mono (fun _ _ _ h=>lift_mono h3 h) (h1 κ B ρ' a' w' h2)
 | _=>exact ⟨s',ρ',h1,h2,h3⟩
theorem PW.skip (h:Q .normal s):PW P N .skip Q s:=fun κ B ρ a w hI=>wp_skip ⟨s,ρ,h,hI,BelB.refl _ _⟩
theorem PW.exit {id:Nat} (h:Q (.exit id) s):PW P N (.exit id) Q s:=fun κ B ρ a w hI=>wp_exit ⟨s,ρ,h,hI,BelB.refl _ _⟩
theorem PW.ret (h:Q .ret s):PW P N .ret Q s:=fun κ B ρ a w hI=>wp_ret ⟨s,ρ,h,hI,BelB.refl _ _⟩
theorem PW.block {id:Nat} (h:PW P N c (inBlockD id Q) s):PW P N (.block id c) Q s:=fun κ B ρ a w hI=>by
 refine wp_block (Code.wp_mono ?_ (h κ B ρ a w hI))
 rintro e a' w' ⟨s',ρ',h1,h2,h3⟩
 cases e with
 | exit id' =>
  show if id'=id then _ else _
  simp only [inBlockD] at h1
  split
  ·rename_i hid; rw [if_pos hid] at h1; exact ⟨s',ρ',h1,h2,h3⟩
  ·rename_i hid; rw [if_neg hid] at h1; exact ⟨s',ρ',h1,h2,h3⟩
 | _=>exact ⟨s',ρ',h1,h2,h3⟩
theorem PW.cond {c:Operand} {z:Bool} (h:s.look [] c=some (.v (.bool z))) (ht:z=true→PW P N x Q s) (hf:z=false→PW P N y Q s):PW P N (.cond c x y) Q s:=fun κ B ρ a w hI =>
 wp_cond_split (repO_v (look_rep hI h pt_nil)) (fun hz=>ht hz κ B ρ a w hI) (fun hz=>hf hz κ B ρ a w hI)
theorem PW.loop (I:St→Prop) (μ : St→Nat) (h0:I s) (round:∀ s,I s→PW P N c (thenD (fun s'=>I s' ∧ μ s' < μ s) Q) s):PW P N (.loop c) Q s:=fun κ B ρ a w hI=>by
 have key:∀ n s ρ a w1,μ s<n→I s→Inv κ B ρ s N a w1→BelB B w w1→Code.rounds P c (lift κ B N w Q) n a w1:=by
  intro n
  induction n with
  | zero=>intro s ρ a w1 h; omega
  | succ n ih =>
   intro s ρ a w1 hn hs hI1 hb1
   rw [rounds_succ]
   refine Code.wp_mono ?_ (round s hs κ B ρ a w1 hI1)
   rintro e a' w' ⟨s',ρ',h1,h2,h3⟩
   cases e with
   | normal=>exact ih s' ρ' a' w' (by have:=h1.2; omega) h1.1 h2 (hb1.trans h3)
   | _=>exact ⟨s',ρ',h1,h2,hb1.trans h3⟩
 exact wp_loop_rounds _ (key (μ s+1) s ρ a w (Nat.lt_succ_self _) h0 hI (BelB.refl _ _))
theorem PW.mono (h:PW P N c Q s) (hq:∀ e s,Q e s→Q' e s):PW P N c Q' s:=fun κ B ρ a w hI=>by
 refine Code.wp_mono ?_ (h κ B ρ a w hI)
 rintro e a' w' ⟨s',ρ',h1,h2,h3⟩
 exact ⟨s',ρ',hq _ _ h1,h2,h3⟩
theorem PW.sel (ds:List Nat) (m:Nat) (hs:s.sel ds m=s') (hu:s'.underB m=true) (h:PW P N c Q s'):PW P N c Q s:=fun κ B ρ a w hI=>by
 subst hs
 exact h κ B _ a w (hI.sel ds m hu)
theorem PL.sel (ds:List Nat) (m:Nat) (hs:s.sel ds m=s') (hu:s'.underB m=true) (h:PL P N ops l Q s'):PL P N ops l Q s:=fun κ B ρ a w0 w hI hb=>by
 subst hs
 exact h κ B _ a w0 w (hI.sel ds m hu) hb
noncomputable def res (P:Program) (N:Nat) (ops:Array Oper) (l:List Oper) (s:St):St:=((steps P default N ops l s).getD (s,[],[])).1
noncomputable def obs (P:Program) (N:Nat) (ops:Array Oper) (l:List Oper) (s:St):List Obl:=((steps P default N ops l s).getD (s,[],[])).2.1
noncomputable def need (P:Program) (N:Nat) (ops:Array Oper) (l:List Oper) (s:St):Prop:=andL ((steps P default N ops l s).getD (s,[],[])).2.2
theorem PL.row (n:Nat) (ds:List Nat) (m:Nat) {p:Prop} (hs:(steps P default N ops (l.take n) s).isSome=true) (hres:(res P N ops (l.take n) s).sel ds m=s') (hu:s'.underB m=true) (ho:seenL (obs P N ops (l.take n) s)=seenR (obs P N ops (l.take n) s)) (hn:need P N ops (l.take n) s=p) (hp:p) (h:PL P N ops (l.drop n) Q s'):PL P N ops l Q s:=fun κ B ρ a w0 w hI hb0=>by
 obtain ⟨x,hx⟩:=Option.isSome_iff_exists.1 hs
 obtain ⟨s1,ob,nd⟩:=x
 have e1:res P N ops (l.take n) s=s1:=by unfold res; rw [hx]; rfl
 have e2:obs P N ops (l.take n) s=ob:=by unfold obs; rw [hx]; rfl
 have e3:need P N ops (l.take n) s=andL nd:=by unfold need; rw [hx]; rfl
 rw [e1] at hres
 rw [e2] at ho
 have hnd:andL nd:=by rw [← e3,hn]; exact hp
 subst hres
 have:=steps_ok (P:=P) (ops:=ops) (Q:=lift κ B N w0 Q) (rest:=l.drop n) (l.take n) hI hx (seen_all ho) (andL_all hnd) fun ρ' a' w' hI' hb=>h κ B _ a' w0 w' (hI'.sel ds m hu) (hb0.trans hb)
 rwa [List.take_append_drop] at this
theorem PL.rowK (n:Nat) (ds:List Nat) (m:Nat) {p:Prop} (hk:((steps P default N ops (l.take n) s).isSome,(res P N ops (l.take n) s).sel ds m,s'.underB m,seenL (obs P N ops (l.take n) s),need P N ops (l.take n) s)=(true,s',true,seenR (obs P N ops (l.take n) s),p)) (hp:p) (h:PL P N ops (l.drop n) Q s'):PL P N ops l Q s:=by
 simp only [Prod.mk.injEq] at hk
 exact PL.row n ds m hk.1 hk.2.1 hk.2.2.1 hk.2.2.2.1 hk.2.2.2.2 hp h
end
end Go.Proofs.Ytkhdnlkdcikdmaa.Dp
namespace Go.Proofs.Ytkhdnlkdcikdmaa.Dp
open Go.RowKit Go.Proofs.Ytkhdnlkdcikdmaa.Sm
open Go.Proofs.Ytkhdnlkdcikdmaa.Ev (Obl opnds dstB PT nx pt_put undef_bool pickB isRow_false seenL seenR seen_all resRun)
set_option maxHeartbeats 1000000
set_option linter.unusedVariables false
set_option linter.unusedSimpArgs false
def close1 (s:St):D→Option (D×List Prop)
 | .h b n=>match s.mem[b]? with
  | some (.row _ z m f)=>if decide (s.fx≤b) then some (.s n z f,[n≤m]) else none
  | _=>none
 | .p b z i o=>match s.mem[b]? with
  | some (.var _ cs)=>if i == 0&&cs.all D.shut&&decide (s.fx≤b) then some (.q cs o,[]) else none
  | _=>none
 | .m b z q n=>match s.mem[b]? with
  | some (.row _ z' m f)=>if decide (s.fx≤b)&&z' == z then some (.s n z (fun i=>f (q+i)),[q+n≤m]) else none
  | _=>none
 | .any=>none
 | .r cs=>none
 | .k _ _=>none
 | d=>some (d,[])
def closeL (s:St):List D→Option (List D×List Prop)
 | []=>some ([],[])
 | d::r=>match close1 s d,closeL s r with
  | some (d',p),some (r',q)=>some (d'::r',p++q)
  | _,_=>none
def closeD (s:St):D→Option (D×List Prop)
 | .r cs=>(closeL s cs).map fun x=>(.r x.1,x.2)
 | d=>close1 s d
def resD (P:Program) (s:St):ResultVar→Option (D×List Prop)
 | .tmp t=>(s.look [] (.tmp t)).bind (closeD s)
 | .cell q ty=>match s.look [] (.tmp q) with
  | some d=>match loadD P s ty d with
   | some (r,p)=>(closeD s r).map fun x=>(x.1,p++x.2)
   | none=>none
  | none=>none
def okA (κ : Nat→Prop) (B:Base) (w:World) (g:Nat):Prop:=(κ g∧g<w.heap.size)∧¬ B.fixd g
section
variable {κ : Nat→Prop} {B:Base} {N:Nat} {ρ ρ':Own} {s s':St} {a:Act} {w w' w0:World} {A:List (Nat×Bool)} {o:Oper} {ops:Array Oper} {P:Program} {ok:Nat→Prop} {d d':D} {v:Value} {rest l:List Oper} {ps:List Prop}
theorem RepC.okA (hI:Inv κ B ρ s N a w) (h:RepC w (okW κ w ρ) d v):RepC w (okA κ B w) d v:=h.mono fun b hb=>⟨⟨hb.1,fun ⟨i1,x1,hk1,h1,h2⟩=>hb.2 i1 x1 (hI.fix i1 _ hk1 h1) h2⟩,rfl⟩
theorem not_lent (hI:Inv κ B ρ s N a w) {b:Nat} {x:Nat×Nat} (hb : ρ[b]? = some (some x)) (hf:s.fx≤b):¬ B.fixd x.1:=by
 rintro ⟨i,y,h4,h1,h2⟩
 have h3:=hI.nd i b y x (hI.fix i _ h4 h1) hb h2
 have h5:=hI.fx
 omega
theorem close1_rep (hI:Inv κ B ρ s N a w) (hr:Rep1 w (okW κ w ρ) ρ d v) (h:close1 s d=some (d',ps)) (hp:∀ p ∈ ps,p):RepC w (okA κ B w) d' v:=by
 cases d with
 | h b n =>
  simp only [close1] at h
  split at h
  ·rename_i T z m f hm
   split at h
   rotate_left 1
   ·cases h
   rename_i hfb
   have hfb:=of_decide_eq_true hfb
   simp only [Option.some.injEq,Prod.mk.injEq] at h
   obtain ⟨rfl,rfl⟩:=h
   have hnm:=hp _ (List.mem_singleton.2 rfl)
   cases hr with
   | c hr=>cases hr
   | h0 hr=>exact .s0 _ _ none 0 (fun _=>rfl) (Nat.zero_le _)
   | h hr hn =>
    rename_i g c
    rcases hI.mem b _ hm with ⟨q1,_⟩|⟨g2,c2,cur,q1,q2,q3,q4,q5,q6⟩
    ·rw [hr] at q1; cases q1
    rw [hr] at q1
    injection q1 with q1
    injection q1 with q1
    injection q1 with e1 e2
    subst e1 e2
    have hg:=hI.own b _ hr
    refine .s (fun i j=>(cur[i*z+j]?).getD undef) ⟨⟨hI.hκ _ hg.1,hg.2⟩,not_lent hI hr hfb⟩ hn q4 (fun i hi=>⟨(q6 i oM).1,(q6 i oM).2.1⟩) (fun i j hi hj => ?_) (fun i j d hi hj => ?_)
    ·rw [Nat.zero_add,cell_of_row w _ _ cur T (0,0) q2]
     have h1:(i+1)*z≤c*z:=Nat.mul_le_mul_right _ oM
     rw [Nat.add_mul,Nat.one_mul] at h1
     have h2:i*z+j<cur.size:=by omega
     simp [h2]
    ·obtain ⟨v',k1,k2⟩:=(q6 i oM).2.2 j d hj
     rw [k1]
     exact k2.okA hI
  ·cases h
 | p b z i o =>
  simp only [close1] at h
  split at h
  ·rename_i T cs hm
   split at h
   ·rename_i hc
    simp only [Bool.and_eq_true,beq_iff_eq,decide_eq_true_eq] at hc
    simp only [Option.some.injEq,Prod.mk.injEq] at h
    obtain ⟨rfl,rfl⟩:=h
    obtain ⟨⟨rfl,hsh⟩,hfb⟩:=hc
    obtain ⟨g,vs,q1,q2,q3,q4⟩:=hI.mem b _ hm
    cases hr with
    | c hr=>cases hr
    | p hr =>
     rw [q1] at hr
     injection hr with hr
     injection hr with hr
     injection hr with e1 e2
     subst e1
     have hg:=hI.own b _ q1
     have:=RepC.q (w:=w) (ok:=okA κ B w) (cs:=cs) (o:=o) (b:=g) (off:=0*z) (fun j=>(vs[j]?).getD undef) ⟨⟨hI.hκ _ hg.1,hg.2⟩,not_lent hI q1 hfb⟩ (fun j hj => ?_) (fun j d hj => ?_)
     ·exact this
     ·rw [Nat.zero_mul,Nat.zero_add,cell_of_row w _ _ vs.toArray T (0,0) q2]
      have:j<vs.length:=by omega
      simp [this]
     ·have hjl:j<vs.length:=by rw [q3]; exact (List.getElem?_eq_some_iff.1 hj).1
      have h5:=List.getElem?_eq_getElem hjl
      rw [h5]
      exact ((q4 j d _ hj h5).shut (List.all_eq_true.1 hsh d (List.mem_of_getElem? hj))).okA hI
   ·cases h
  ·cases h
 | m b z q n =>
  simp only [close1] at h
  split at h
  ·rename_i T z' m f hm
   split at h
   rotate_left 1
   ·cases h
   rename_i hfb
   simp only [Bool.and_eq_true,decide_eq_true_eq,beq_iff_eq] at hfb
   obtain ⟨hfb,rfl⟩:=hfb
   simp only [Option.some.injEq,Prod.mk.injEq] at h
   obtain ⟨rfl,rfl⟩:=h
   have hnm:=hp _ (List.mem_singleton.2 rfl)
   cases hr with
   | c hr=>cases hr
   | m0 hr=>exact .s0 _ _ none 0 (fun _=>rfl) (Nat.zero_le _)
   | m hr hk hc ho =>
    rename_i g c off kk
    rcases hI.mem b _ hm with ⟨q1,_⟩|⟨g2,c2,cur,q1,q2,q3,q4,q5,q6⟩
    ·rw [hr] at q1; cases q1
    rw [hr] at q1
    injection q1 with q1
    injection q1 with q1
    injection q1 with e1 e2
    subst e1 e2
    have hg:=hI.own b _ hr
    rcases Nat.eq_zero_or_pos n with hn0|hn0
    ·subst hn0
     exact .s0 _ _ _ _ (fun h=>by cases h) oM
    obtain rfl:=ho oM
    refine .s (fun i j=>(cur[(q+i)*z'+j]?).getD undef) ⟨⟨hI.hκ _ hg.1,hg.2⟩,not_lent hI hr hfb⟩ hk oM (fun i hi=>⟨(q6 (q+i) oM).1,(q6 (q+i) oM).2.1⟩) (fun i j hi hj => ?_) (fun i j d hi hj => ?_)
    ·rw [← Nat.add_assoc,← Nat.add_mul,cell_of_row w _ _ cur T (0,0) q2]
     have h1:(q+i+1)*z'≤c*z':=Nat.mul_le_mul_right _ oM
     rw [Nat.add_mul,Nat.one_mul] at h1
     have h2:(q+i)*z'+j<cur.size:=by omega
     simp [h2]
    ·obtain ⟨v',k1,k2⟩:=(q6 (q+i) oM).2.2 j d hj
     rw [k1]
     exact k2.okA hI
  ·cases h
 | any=>cases h
 | r cs=>cases h
 | k f cs=>cases h
 | _ =>
  simp only [close1,Option.some.injEq,Prod.mk.injEq] at h
  obtain ⟨rfl,rfl⟩:=h
  cases hr with
  | c hr=>exact hr.okA hI
theorem closeL_rep (hI:Inv κ B ρ s N a w):∀ {cs cs':List D} {vs:List Value} {ps:List Prop},closeL s cs=some (cs',ps)→vs.length=cs.length→(∀ (j:Nat) (d:D) (u:Value),cs[j]? = some d→vs[j]? = some u→Rep1 w (okW κ w ρ) ρ d u)→(∀ p ∈ ps,p)→vs.length=cs'.length∧∀ (j:Nat) (d:D) (u:Value),cs'[j]? = some d→vs[j]? = some u→RepC w (okA κ B w) d u
 | [],cs',vs,ps,h,hl,_,_=>by
  simp only [closeL,Option.some.injEq,Prod.mk.injEq] at h
  obtain ⟨rfl,rfl⟩:=h
  exact ⟨hl,fun j d u h=>by simp at h⟩
 | d::r,cs',vs,ps,h,hl,hd,hp=>by
  simp only [closeL] at h
  split at h
  ·rename_i d' p r' q h1 h2
   simp only [Option.some.injEq,Prod.mk.injEq] at h
   obtain ⟨rfl,rfl⟩:=h
   cases vs with
   | nil=>simp at hl
   | cons u us =>
    obtain ⟨q1,q2⟩:=closeL_rep hI (vs:=us) h2 (by simpa using hl) (fun j d u a b=>hd (j+1) d u a b) fun p hp'=>hp p (List.mem_append_right _ hp')
    refine ⟨by simp [q1],fun j d u h3 h4 => ?_⟩
    cases j with
    | zero =>
     simp only [List.getElem?_cons_zero,Option.some.injEq] at h3 h4
     subst h3 h4
     exact close1_rep hI (hd 0 _ _ rfl rfl) h1 fun p hp'=>hp p (List.mem_append_left _ hp')
    | succ j=>exact q2 j d u (by simpa using h3) (by simpa using h4)
  ·cases h
theorem closeD_rep (hI:Inv κ B ρ s N a w) (hr:RepO w (okW κ w ρ) ρ d v) (h:closeD s d=some (d',ps)) (hp:∀ p ∈ ps,p):RepC w (okA κ B w) d' v:=by
 by_cases hr':∃ cs,d = .r cs
 ·obtain ⟨cs,rfl⟩:=hr'
  simp only [closeD] at h
  obtain ⟨⟨cs',p⟩,h1,e⟩:=Option.map_eq_some_iff.1 h
  simp only [Prod.mk.injEq] at e
  obtain ⟨rfl,rfl⟩:=e
  obtain ⟨vs,rfl,hl,hd⟩:=repO_r hr
  obtain ⟨q1,q2⟩:=closeL_rep hI h1 hl hd hp
  exact .r q1 q2
 ·have e:closeD s d=close1 s d:=by cases d <;> first|rfl|exact absurd ⟨_,rfl⟩ hr'
  rw [e] at h
  cases hr with
  | one hr=>exact close1_rep hI hr h hp
  | r hl hd=>exact absurd ⟨_,rfl⟩ hr'
  | k hl hd=>cases h
theorem resD_run (hI:Inv κ B ρ s N a w) {r:ResultVar} (h:resD P s r=some (d,ps)) (hp:∀ p ∈ ps,p):∃ v,(resRun a.tmps r).run P w = .ok v w∧RepC w (okA κ B w) d v:=by
 cases r with
 | tmp t =>
  simp only [resD] at h
  obtain ⟨d0,h1,h2⟩:=Option.bind_eq_some_iff.1 h
  refine ⟨sl a t,?_,closeD_rep hI (look_rep hI h1 pt_nil) h2 hp⟩
  show (pure _:Sem Value).run P w=_
  rw [Sem.run_pure]
  rfl
 | cell q ty =>
  simp only [resD] at h
  split at h
  ·rename_i d0 hq
   split at h
   ·rename_i r p hl
    obtain ⟨⟨d1,p1⟩,h1,e⟩:=Option.map_eq_some_iff.1 h
    simp only [Prod.mk.injEq] at e
    obtain ⟨rfl,rfl⟩:=e
    have hq':=look_rep hI hq pt_nil
    obtain ⟨u,h4,h3'⟩:=loadD_run hI hq' hl fun p hp'=>hp p (List.mem_append_left _ hp')
    have h3:=h3' w (fun _ _=>rfl) (fun _ _ _ _ _ _ _ _=>rfl)
    have hptr:∃ ad,a.eval (.tmp q) = .pointer (some ad):=by
     generalize a.eval (.tmp q)=vv at hq'
     cases d0 with
     | q cs o=>cases hq' with
      | one hq'=>cases hq' with
       | c hq'=>cases hq'; exact ⟨_,rfl⟩
     | p b z i o=>cases hq' with
      | one hq'=>cases hq' with
       | c hq'=>cases hq'
       | p hq'=>exact ⟨_,rfl⟩
     | _=>simp [loadD] at hl
    obtain ⟨ad,had⟩:=hptr
    refine ⟨u,?_,closeD_rep hI h4 h1 fun p hp'=>hp p (List.mem_append_right _ hp')⟩
    rw [had] at h3
    have hsl:sl a q = .pointer (some ad):=had
    have hsl':a.tmps.getD q undef = .pointer (some ad):=hsl
    show (do loadVar ty (← asAddr (a.tmps.getD q undef)):Sem Value).run P w=_
    rw [hsl']
    simp only [Instr.loadAt,Instr.sureAddr,Sem.run_bind,Sem.run_pure,Result.andThen_ok] at h3
    simp only [asAddr,Sem.run_bind,Sem.run_pure,Result.andThen_ok,h3]
   ·cases h
  ·cases h
end
def resAll (P:Program) (s:St):List ResultVar→Option (D×List Prop)
 | []=>some (.t [],[])
 | [r]=>resD P s r
 | [r,r']=>match resD P s r,resD P s r' with
  | some (d,p),some (d',p')=>some (.t [d,d'],p++p')
  | _,_=>none
 | [r,r',r'']=>match resD P s r,resD P s r',resD P s r'' with
  | some (d,p),some (d',p'),some (d'',p'')=>some (.t [d,d',d''],p++(p'++p''))
  | _,_,_=>none
 | _=>none
def retQ (P:Program) (rs:List ResultVar) (R:D→Prop):Exit→St→Prop
 | .normal,s=>∃ d ps,resAll P s rs=some (d,ps)∧andL ps∧R d
 | .ret,s=>∃ d ps,resAll P s rs=some (d,ps)∧andL ps∧R d
 | _,_=>False
def PC (P:Program) (G:List (Nat×List D)) (f:FuncId) (ds:List D) (R:D→Prop):Prop :=
 ∀ (κ : Nat→Prop) (w:World) (vs:List Value),(∀ g,κ g→g<w.heap.size)→(∀ x ∈ G,GlC w κ x)→vs.length=ds.length→(∀ (j:Nat) (d:D) (v:Value),ds[j]? = some d→vs[j]? = some v→RepC w κ d v) →
  Calls P f vs.toArray w fun e w'=>∃ v d,e = .returned v∧R d∧RepC w' (fun g=>(κ g∨w.heap.size≤g)∧g<w'.heap.size) d v∧Below w.heap.size w w'
def entsD:Nat→List D→List Ent
 | _,[]=>[]
 | i,d::r=>⟨i,[],d⟩::entsD (i+1) r
theorem entsD_mem:∀ (l:List D) (i:Nat) (e:Ent),e ∈ entsD i l→∃ j d,l[j]? = some d∧e=⟨i+j,[],d⟩
 | [],_,_,h=>(nomatch h)
 | d::r,i,e,h=>by
  rcases List.mem_cons.1 h with rfl|h
  ·exact ⟨0,d,rfl,rfl⟩
  ·obtain ⟨j,d',h1,h2⟩:=entsD_mem r (i+1) e h
   exact ⟨j+1,d',h1,by rw [h2]; simp; omega⟩
theorem resAll_run {P:Program} {κ : Nat→Prop} {B:Base} {N:Nat} {ρ : Own} {s:St} {a:Act} {w:World} (hI:Inv κ B ρ s N a w) {fn:Func} {d:D} {ps:List Prop} (h:resAll P s fn.results.toList=some (d,ps)) (hp:∀ p ∈ ps,p):∃ v,(results fn a.tmps).run P w = .ok v w∧RepC w (okA κ B w) d v:=by
 have hrs:(results fn a.tmps)=(do let vs ← fn.results.mapM (resRun a.tmps); pure (if h:vs.size=1 then vs[0] else .tuple vs):Sem Value):=rfl
 rw [hrs]
 generalize hr:fn.results=rs at h
 obtain ⟨l⟩:=rs
 change resAll P s l=some (d,ps) at h
 match l,h with
 | [],h =>
  simp only [resAll,Option.some.injEq,Prod.mk.injEq] at h
  obtain ⟨rfl,rfl⟩:=h
  exact ⟨.tuple #[],by simp,RepC.t (cs:=[]) (vs:=[]) rfl (fun j d v h=>by simp at h)⟩
 | [r],h =>
  obtain ⟨v,h1,h2⟩:=resD_run hI h hp
  exact ⟨v,by simp [h1],h2⟩
 | [r,r'],h =>
  simp only [resAll] at h
  split at h
  ·rename_i d1 p1 d2 p2 e1 e2
   simp only [Option.some.injEq,Prod.mk.injEq] at h
   obtain ⟨rfl,rfl⟩:=h
   obtain ⟨v1,h1,h2⟩:=resD_run hI e1 fun p hp'=>hp p (List.mem_append_left _ hp')
   obtain ⟨v2,h3,h4⟩:=resD_run hI e2 fun p hp'=>hp p (List.mem_append_right _ hp')
   refine ⟨.tuple #[v1,v2],by simp [h1,h3],RepC.t (cs:=[d1,d2]) (vs:=[v1,v2]) rfl ?_⟩
   intro j d v k1 k2
   match j with
   | 0=>simp at k1 k2; rw [← k1,← k2]; exact h2
   | 1=>simp at k1 k2; rw [← k1,← k2]; exact h4
   | j+2=>simp at k1
  ·cases h
 | [r,r',r''],h =>
  simp only [resAll] at h
  split at h
  ·rename_i d1 p1 d2 p2 d3 p3 e1 e2 e3
   simp only [Option.some.injEq,Prod.mk.injEq] at h
   obtain ⟨rfl,rfl⟩:=h
   obtain ⟨v1,h1,h2⟩:=resD_run hI e1 fun p hp'=>hp p (List.mem_append_left _ hp')
   obtain ⟨v2,h3,h4⟩:=resD_run hI e2 fun p hp'=>hp p (List.mem_append_right _ (List.mem_append_left _ hp'))
   obtain ⟨v3,h5,h6⟩:=resD_run hI e3 fun p hp'=>hp p (List.mem_append_right _ (List.mem_append_right _ hp'))
   refine ⟨.tuple #[v1,v2,v3],by simp [h1,h3,h5],RepC.t (cs:=[d1,d2,d3]) (vs:=[v1,v2,v3]) rfl ?_⟩
   intro j d v k1 k2
   match j with
   | 0=>simp at k1 k2; rw [← k1,← k2]; exact h2
   | 1=>simp at k1 k2; rw [← k1,← k2]; exact h4
   | 2=>simp at k1 k2; rw [← k1,← k2]; exact h6
   | j+3=>simp at k1
  ·cases h
 | _::_::_::_::_,h=>simp [resAll] at h
theorem PC.of {P:Program} {G:List (Nat×List D)} {f:FuncId} {fn:Func} {c:Code} {ds:List D} {R:D→Prop} {N:Nat} (hf:P.funcs[f]? = some fn) (hb:fn.body=some c) (hn:fn.ntmps=N) (hle:ds.length≤N) (h:PW P N c (retQ P fn.results.toList R) { tab:=entsD 0 ds,mem:=[],gl:=G }):PC P G f ds R:=by
 intro κ w vs hκ hG hl hd
 have hsz:(vs.toArray++Array.replicate (fn.ntmps-vs.toArray.size) undef).size=N:=by simp; omega
 have hmono:∀ b,κ b→okW (fun g => κ g∨w.heap.size≤g) w [] b∧w.heap[b]? = w.heap[b]? := fun b hb=>⟨⟨⟨.inl hb,hκ b hb⟩,fun b' x hx=>by simp at hx⟩,rfl⟩
 have hI:Inv (fun g => κ g∨w.heap.size≤g) ⟨w.heap.size,[],0⟩ [] { tab:=entsD 0 ds,mem:=[],gl:=G } N { tmps:=vs.toArray++Array.replicate (fn.ntmps-vs.toArray.size) undef,defers:=[] } w:=by
  refine ⟨hsz,rfl,fun e he => ?_,rfl,(fun b x hx=>by simp at hx),(fun b b' x x' hx=>by simp at hx),(fun b ob hm=>by simp at hm),fun x hx=>(hG x hx).mono hmono,Nat.le_refl _,fun g hg=>hg.elim .inr (fun ⟨_,_,h,_⟩=>by simp at h),rfl,(fun i x _ h=>by simp at h)⟩
  obtain ⟨j,d,h1,rfl⟩:=entsD_mem _ _ _ he
  have hj:j<vs.length:=by rw [hl]; exact (List.getElem?_eq_some_iff.1 h1).1
  refine ⟨fun _ => ?_,fun h=>absurd pt_nil h,?_⟩
  ·show RepO _ _ _ d (sl _ (0+j))
   have h2:=List.getElem?_eq_getElem hj
   have h3:(vs.toArray++Array.replicate (fn.ntmps-vs.toArray.size) undef)[j]? = some vs[j]:=by rw [Array.getElem?_append_left (by simpa using hj)]; simp
   have h4:sl ⟨vs.toArray++Array.replicate (fn.ntmps-vs.toArray.size) undef,[]⟩ (0+j)=vs[j]:=by
    unfold sl
    rw [Nat.zero_add]
    simp only [Array.getD_eq_getD_getElem?,h3,Option.getD_some]
   rw [h4]
   exact .one (.c ((hd j d _ h1 h2).mono hmono))
  ·show 0+j<(vs.toArray++Array.replicate (fn.ntmps-vs.toArray.size) undef).size
   rw [hsz]
   omega
 refine calls_of_wp hf hb (Code.wp_mono ?_ (h _ _ _ _ _ hI))
 have fin:∀ (s':St) (ρ':Own) (a':Act) (w':World),(∃ d ps,resAll P s' fn.results.toList=some (d,ps)∧andL ps∧R d)→Inv (fun g => κ g∨w.heap.size≤g) ⟨w.heap.size,[],0⟩ ρ' s' N a' w'→BelB ⟨w.heap.size,[],0⟩ w w'→a'.defers=[]∧∃ v,(results fn a'.tmps).run P w' = .ok v w'∧∃ v' d,Ending.returned v = .returned v'∧R d∧RepC w' (fun g=>(κ g∨w.heap.size≤g)∧g<w'.heap.size) d v'∧Below w.heap.size w w':=by
  rintro s' ρ' a' w' ⟨d,ps,h1,h2,h3⟩ hI' hb'
  obtain ⟨v,k1,k2⟩:=resAll_run hI' h1 (andL_all h2)
  exact ⟨hI'.dfr,v,k1,v,d,rfl,h3,k2.mono (fun g hg=>⟨hg.1,rfl⟩),⟨hb'.os,hb'.tape,hb'.output,hb'.size,fun k hk=>hb'.block k hk fun ⟨_,_,h,_⟩=>by simp at h⟩⟩
 rintro e a' w' ⟨s',ρ',h1,h2,h3⟩
 cases e with
 | normal=>exact fin s' ρ' a' w' h1 h2 h3
 | ret=>exact fin s' ρ' a' w' h1 h2 h3
 | _=>exact h1.elim
def looksA (s:St) (A:List (Nat×Bool)):List Operand→Option (List D)
 | []=>some []
 | x::r=>match s.look A x,looksA s A r with
  | some d,some l=>some (d::l)
  | _,_=>none
def fnOk (P:Program) (f:FuncId):Bool:=match P.funcs[f]? with
 | some fn => !(fn.name == "runtime.NumGoroutine")&&fn.body.isSome
 | none=>false
def callD (P:Program) (s:St) (A:List (Nat×Bool)) (o:Oper):Option (FuncId×List D) :=
 match o.op with
 | .call c=>match c.callee with
  | .value x=>match s.look A x,looksA s A c.args.toList with
   | some (.v (.func (.func f) fi ca)),some ds=>if fnOk P f&&fi.isEmpty&&ca.isEmpty then some (f,ds) else none
   | some (.c f cs),some ds=>if fnOk P f then some (f,ds++cs) else none
   | some (.k f cs),some ds=>if fnOk P f then some (f,ds++cs) else none
   | _,_=>none
  | _=>none
 | _=>none
def shuts:List D→Bool
 | []=>true
 | d::r=>(match d with
  | .r cs=>cs.all D.shut
  | d=>d.shut)&&shuts r
def flat:D→Bool
 | .v _=>true
 | .r cs=>(plainL cs).isSome
 | .t cs=>cs.all fun d=>match d with
  | .v _=>true
  | .r cs=>(plainL cs).isSome
  | _=>false
 | _=>false
section
variable {κ : Nat→Prop} {B:Base} {N:Nat} {ρ ρ':Own} {s s':St} {a:Act} {w w' w0:World} {A:List (Nat×Bool)} {o:Oper} {ops:Array Oper} {P:Program} {ok:Nat→Prop} {d d':D} {v:Value} {rest l:List Oper} {ps:List Prop} {Q:Exit→St→Prop} {G:List (Nat×List D)} {f:FuncId} {ds:List D} {R:D→Prop} {c:Code}
theorem looksA_rep (hI:Inv κ B ρ s N a w) (hp:PT a A):∀ {l:List Operand} {ds:List D},looksA s A l=some ds→(l.map a.eval).length=ds.length∧∀ (j:Nat) (d:D) (v:Value),ds[j]? = some d→(l.map a.eval)[j]? = some v→RepO w (okW κ w ρ) ρ d v
 | [],ds,h=>by
  simp only [looksA,Option.some.injEq] at h
  subst h
  exact ⟨rfl,fun j d v h=>by simp at h⟩
 | x::r,ds,h=>by
  simp only [looksA] at h
  split at h
  ·rename_i d l h1 h2
   injection h with h
   subst h
   obtain ⟨q1,q2⟩:=looksA_rep hI hp h2
   refine ⟨by simpa using q1,fun j d v k1 k2 => ?_⟩
   cases j with
   | zero =>
    simp only [List.map_cons,List.getElem?_cons_zero,Option.some.injEq] at k1 k2
    subst k1 k2
    exact look_rep hI h1 hp
   | succ j=>exact q2 j d v (by simpa using k1) (by simpa using k2)
  ·cases h
theorem shut_rep {d:D} (hs:shuts [d]=true) (h:RepO w ok ρ d v):RepC w ok d v:=by
 simp only [shuts,Bool.and_true] at hs
 by_cases hr:∃ cs,d = .r cs
 ·obtain ⟨cs,rfl⟩:=hr
  obtain ⟨vs,rfl,hl,hd⟩:=repO_r h
  exact .r hl fun j d v h1 h2=>(hd j d v h1 h2).shut (List.all_eq_true.1 hs d (List.mem_of_getElem? h1))
 ·have hs':d.shut=true:=by cases d <;> first|exact hs|exact absurd ⟨_,rfl⟩ hr
  cases h with
  | one h=>exact h.shut hs'
  | r hl hd=>exact absurd ⟨_,rfl⟩ hr
  | k hl hd=>cases hs'
theorem shuts_mem:∀ {l:List D},shuts l=true→∀ d ∈ l,shuts [d]=true
 | [],_,d,hd=>(nomatch hd)
 | x::r,h,d,hd=>by
  simp only [shuts,Bool.and_eq_true] at h
  rcases List.mem_cons.1 hd with rfl|hd
  ·simp only [shuts,Bool.and_true]; exact h.1
  ·exact shuts_mem h.2 d hd
theorem run_call (hI:Inv κ B ρ s N a w) (hp:PT a A) (h:callD P s A o=some (f,ds)):∃ vs:List Value,(execOp a.eval o).run P w = .ok (.enter f vs.toArray) w∧vs.length=ds.length∧∀ (j:Nat) (d:D) (v:Value),ds[j]? = some d→vs[j]? = some v→RepO w (okW κ w ρ) ρ d v:=by
  have hfn:∀ (f:FuncId) (args:Array Value),fnOk P f=true→(callFunc f args).run P w = .ok (.enter f args) w:=by
    intro f args hk
    unfold fnOk at hk
    split at hk
    · rename_i fn hf
      simp only [Bool.and_eq_true,Bool.not_eq_true'] at hk
      obtain ⟨b,hb⟩:=Option.isSome_iff_exists.1 hk.2
      have hne:¬ fn.name = "runtime.NumGoroutine" := by
        have:=hk.1
        intro e
        rw [e] at this
        simp at this
      simp [callFunc,hf,hne,hb]
    · cases hk
  unfold callD at h
  split at h
  · rename_i c hop
    split at h
    · rename_i x hcal
      have hargs:c.args=c.args.toList.toArray:=by simp
      split at h
      · rename_i f' fi ca ds' hx hl
        split at h
        · rename_i hok
          simp only [Bool.and_eq_true,Array.isEmpty_iff] at hok
          obtain ⟨⟨hok,rfl⟩,rfl⟩:=hok
          simp only [Option.some.injEq,Prod.mk.injEq] at h
          obtain ⟨rfl,rfl⟩:=h
          obtain ⟨q1,q2⟩:=looksA_rep hI hp hl
          refine ⟨c.args.toList.map a.eval,?_,q1,q2⟩
          have ex:=repO_v (look_rep hI hx hp)
          have:=hfn f' (c.args.map a.eval) hok
          unfold execOp
          rw [hop]
          simp only [resolve,hcal,ex,Deferred.ofValue,invoke,Sem.run_bind,Sem.run_pure,Result.andThen_ok,Array.empty_append,Array.append_empty,this]
          congr 2
          rw [← Array.toList_map]
        · cases h
      · rename_i f' cs ds' hx hl
        split at h
        · rename_i hok
          simp only [Option.some.injEq,Prod.mk.injEq] at h
          obtain ⟨rfl,rfl⟩:=h
          obtain ⟨q1,q2⟩:=looksA_rep hI hp hl
          have ex:=look_rep hI hx hp
          generalize hev:a.eval x=ev at ex
          cases ex with
          | one ex=>cases ex with
            | c ex=>cases ex with
              | c hl2 hd2 =>
                rename_i us
                refine ⟨c.args.toList.map a.eval++us,?_,by simp only [List.length_append,q1,hl2],?_⟩
                · have:=hfn f' (c.args.map a.eval++us.toArray) hok
                  unfold execOp
                  rw [hop]
                  simp only [resolve,hcal,hev,Deferred.ofValue,invoke,Sem.run_bind,Sem.run_pure,Result.andThen_ok,Array.empty_append,this]
                  congr 2
                  simp
                · intro j d v k1 k2
                  rcases Nat.lt_or_ge j ds'.length with hj|hj
                  · rw [List.getElem?_append_left hj] at k1
                    rw [List.getElem?_append_left oM] at k2
                    exact q2 j d v k1 k2
                  · rw [List.getElem?_append_right hj] at k1
                    rw [List.getElem?_append_right oM,q1] at k2
                    exact .one (.c (hd2 _ d v k1 k2))
        · cases h
      · rename_i f' cs ds' hx hl
        split at h
        · rename_i hok
          simp only [Option.some.injEq,Prod.mk.injEq] at h
          obtain ⟨rfl,rfl⟩:=h
          obtain ⟨q1,q2⟩:=looksA_rep hI hp hl
          have ex:=look_rep hI hx hp
          generalize hev:a.eval x=ev at ex
          cases ex with
          | one ex=>exact absurd ex Rep1.not_k
          | k hl2 hd2 =>
            rename_i us
            refine ⟨c.args.toList.map a.eval++us,?_,by simp only [List.length_append,q1,hl2],?_⟩
            · have:=hfn f' (c.args.map a.eval++us.toArray) hok
              unfold execOp
              rw [hop]
              simp only [resolve,hcal,hev,Deferred.ofValue,invoke,Sem.run_bind,Sem.run_pure,Result.andThen_ok,Array.empty_append,this]
              congr 2
              simp
            · intro j d v k1 k2
              rcases Nat.lt_or_ge j ds'.length with hj|hj
              · rw [List.getElem?_append_left hj] at k1
                rw [List.getElem?_append_left oM] at k2
                exact q2 j d v k1 k2
              · rw [List.getElem?_append_right hj] at k1
                rw [List.getElem?_append_right oM,q1] at k2
                exact .one (hd2 _ d v k1 k2)
        · cases h
      · cases h
    · cases h
  · cases h
theorem PL.call (hA:gpath ops s o=some []) (hd:dstB N [] o.dst=true) (hc:callD P s [] o=some (f,ds)) (hsh:shuts ds=true) (hG:s.gl=G) (hpc:PC P G f ds R) (k:∀ d,R d→PL P N ops rest Q (s.put o.dst [] d)):PL P N ops (o::rest) Q s:=fun κ B ρ a w0 w hI hb0=>by
 obtain ⟨vs,h1,h2,h3⟩:=run_call hI pt_nil hc
 refine BigFrame.wpList_want (gpath_nil hI hA) fun K hK => ?_
 unfold Oper.wp
 rw [h1,Oper.upon_enter]
 refine (hpc (okW κ w ρ) w vs (fun g hg=>hg.1.2) (by rw [← hG]; exact hI.gl) h2 fun j d v k1 k2=>shut_rep (shuts_mem hsh d (List.mem_of_getElem? k1)) (h3 j d v k1 k2)).mono ?_
 rintro e w' ⟨v,d,rfl,hr,hrep,hb⟩
 refine hK _ _ (k d hr κ B ρ _ w0 w' (inv_put (hI.later hb) hd (fun _ => .one (.c ?_)) fun h=>absurd pt_nil h) (hb0.trans (BelB.of_below hb hI.big)))
 refine hrep.mono fun g hg=>⟨?_,rfl⟩
 rcases hg.1 with h|h
 ·exact ⟨⟨h.1.1,hg.2⟩,h.2⟩
 ·exact ⟨⟨hI.hκ g (.inl (Nat.le_trans hI.big h)),hg.2⟩,fun b x hx=>by have:=(hI.own b x hx).2; omega⟩
theorem PL.gcall (hA:gpath ops s o=some A) (hcl:closedB s A=true) (hd:dstB N A o.dst=true) (hc:callD P s A o=some (f,ds)) (hsh:shuts ds=true) (hG:s.gl=G) (d:D) (hpc:pathP s A→PC P G f ds (· = d)) (k:PL P N ops rest Q (s.put o.dst A d)):PL P N ops (o::rest) Q s:=fun κ B ρ a w0 w hI hb0=>by
 by_cases hp:PT a A
 ·obtain ⟨vs,h1,h2,h3⟩:=run_call hI hp hc
  refine BigFrame.wpList_want ((wanted_iff hI hA).2 hp) fun K hK => ?_
  unfold Oper.wp
  rw [h1,Oper.upon_enter]
  refine (hpc (path_of hI (closedB_of hcl) hp) (okW κ w ρ) w vs (fun g hg=>hg.1.2) (by rw [← hG]; exact hI.gl) h2 fun j d v k1 k2=>shut_rep (shuts_mem hsh d (List.mem_of_getElem? k1)) (h3 j d v k1 k2)).mono ?_
  rintro e w' ⟨v,d',rfl,rfl,hrep,hb⟩
  refine hK _ _ (k κ B ρ _ w0 w' (inv_put (hI.later hb) hd (fun _ => .one (.c ?_)) fun h=>absurd hp h) (hb0.trans (BelB.of_below hb hI.big)))
  refine hrep.mono fun g hg=>⟨?_,rfl⟩
  rcases hg.1 with h|h
  ·exact ⟨⟨h.1.1,hg.2⟩,h.2⟩
  ·exact ⟨⟨hI.hκ g (.inl (Nat.le_trans hI.big h)),hg.2⟩,fun b x hx=>by have:=(hI.own b x hx).2; omega⟩
 ·have hw:Region.wanted o (yielded ops a.tmps)=false:=by
   rw [Bool.eq_false_iff]
   exact fun h=>hp ((wanted_iff hI hA).1 h)
  exact wpList_skip hw (k κ B ρ _ w0 w (inv_put hI hd (fun h=>absurd h hp) fun _=>rfl) hb0)
theorem PW.eq (h:s=s') (k:PW P N c Q s'):PW P N c Q s:=h▸k
theorem PL.eq (h:s=s') (k:PL P N ops l Q s'):PL P N ops l Q s:=h▸k
theorem PW.remem {b:Nat} {t:TypeId} {z n:Nat} {f f':Nat→List D} (hm:s.mem[b]? = some (.row t z n f)) (hf:∀ i,i<n→f i=f' i) (h:PW P N c Q (s.setMem b (.row t z n f'))):PW P N c Q s:=fun κ B ρ a w hI=>h κ B ρ a w (hI.remem hm hf)
theorem PL.remem {b:Nat} {t:TypeId} {z n:Nat} {f f':Nat→List D} (hm:s.mem[b]? = some (.row t z n f)) (hf:∀ i,i<n→f i=f' i) (h:PL P N ops l Q (s.setMem b (.row t z n f'))):PL P N ops l Q s:=fun κ B ρ a w0 w hI hb=>h κ B ρ a w0 w (hI.remem hm hf) hb
def St.born (s:St) (d:Nat) (t:TypeId) (z:Nat):St:={ s with tab:=⟨d,[],.h s.mem.length 0⟩::s.tab.filter fun e=>e.d != d,mem:=s.mem++[.row t z 0 fun _=>[]] }
theorem Inv.born (hI:Inv κ B ρ s N a w) {k:Nat} (t:TypeId) (z:Nat) (hk:s.look [] (.tmp k)=some (.v (.slice none 0 0))):Inv κ B (ρ ++ [none]) (s.born k t z) N a w:=by
 have hv:sl a k = .slice none 0 0:=repO_v (look_rep hI hk pt_nil)
 have hI2:=inv_new hI (Below.refl _ _) (x:=none) (ob := .row t z 0 fun _=>[]) (fun y hy=>by cases hy) (.inl ⟨by simp,rfl⟩)
 have hlt:k<a.tmps.size:=by
  simp only [St.look] at hk
  split at hk
  ·rename_i e he
   obtain ⟨hin,rfl⟩:=find_mem he
   exact (hI.tab e hin).lt
  ·cases hk
 refine ⟨hI2.size,hI2.dfr,fun e he => ?_,hI2.len,hI2.own,hI2.nd,hI2.mem,hI2.gl,hI2.big,hI2.hκ,hI2.fx,hI2.fix⟩
 rcases List.mem_cons.1 he with rfl|he
 ·refine ⟨fun _ => ?_,fun h=>absurd pt_nil h,hlt⟩
  show RepO _ _ _ _ (sl a k)
  rw [hv,← hI.len]
  exact .one (.h0 (by simp))
 ·exact hI2.tab e (List.mem_filter.1 he).1
theorem PW.born (k:Nat) (t:TypeId) (z:Nat) (hk:s.look [] (.tmp k)=some (.v (.slice none 0 0))) (h:PW P N c Q (s.born k t z)):PW P N c Q s:=fun κ B ρ a w hI=>h κ B _ a w (hI.born t z hk)
end
end Go.Proofs.Ytkhdnlkdcikdmaa.Dp
namespace Go.Proofs.Ytkhdnlkdcikdmaa.Dp
open Go.RowKit Go.Proofs.Ytkhdnlkdcikdmaa.Sm
set_option maxHeartbeats 1000000
set_option linter.unusedVariables false
theorem boolS:(∀ a b:Bool,((a&&b)=true)=(a=true∧b=true))∧(∀ a b:Bool,((a||b)=true)=(a=true∨b=true))∧(∀ b:Bool,((!b)=true)=(b=false))∧(∀ a b:Bool,((a&&b)=false)=(a=false∨b=false))∧(∀ a b:Bool,((a||b)=false)=(a=false∧b=false))∧(∀ b:Bool,((!b)=false)=(b=true))∧(∀ (p:Prop) [Decidable p],(decide p=true)=p)∧(∀ (p:Prop) [Decidable p],(decide p=false)=¬ p)∧(∀ {α : Type} [BEq α] [LawfulBEq α] (a b : α),((a == b)=true)=(a=b))∧(∀ {α : Type} [BEq α] [LawfulBEq α] (a b : α),((a != b)=true)=¬ (a=b))∧(∀ {α : Type} [BEq α] [LawfulBEq α] (a b : α),((a == b)=false)=¬ (a=b))∧(∀ {α : Type} [BEq α] [LawfulBEq α] (a b : α),((a != b)=false)=(a=b))∧((true=false)=False)∧((false=true)=False) :=
 ⟨fun a b=>by simp,fun a b=>by simp,fun b=>by simp,fun a b=>by cases a <;> cases b <;> simp,fun a b=>by cases a <;> cases b <;> simp,fun b=>by simp,fun p _=>by simp,fun p _=>by simp,fun a b=>by simp,fun a b=>by simp,fun a b=>by simp,fun a b=>by simp,by simp,by simp⟩
def I (x:Int):D := .v (.int .i64 x)
def sl' {α : Type} [Inhabited α] (z:Nat) (e : α → List D) (l:List α):D := .s l.length z fun i=>e (l.getD i default)
section
variable {P:Program} {N:Nat} {ops:Array Oper} {l rest:List Oper} {o:Oper} {Q Q':Exit→St→Prop} {s s':St} {c x y:Code} {R:D→Prop} {rs:List ResultVar} {d:D} {ps:List Prop}
theorem retQ_ret (h:resAll P s rs=some (d,ps)) (hp:andL ps) (hR:R d):retQ P rs R .ret s:=⟨d,ps,h,hp,hR⟩
theorem retQ_normal (h:resAll P s rs=some (d,ps)) (hp:andL ps) (hR:R d):retQ P rs R .normal s:=⟨d,ps,h,hp,hR⟩
def Back {α : Type} (st : α → St) (I : α → Prop) (μ : α → Nat) (ds:List Nat) (m:Nat) (n:Nat) (s':St):Prop:=∃ x',s'.sel ds m=st x'∧(st x').underB m=true∧I x' ∧ μ x'<n
theorem Back.of {α : Type} {st : α → St} {I : α → Prop} {μ : α → Nat} {ds:List Nat} {m n:Nat} {s1:St} (x' : α) (h:s'.sel ds m=s1) (hs:s1=st x') (hu:(st x').underB m=true) (hI:I x') (hμ : μ x'<n):Back st I μ ds m n s':=⟨x',h.trans hs,hu,hI,hμ⟩
theorem PW.loopI {α : Type} (st : α → St) (I : α → Prop) (μ : α → Nat) (ds:List Nat) (m:Nat) (x0 : α) (h0:s.sel ds m=st x0) (hu:(st x0).underB m=true) (hI0:I x0) (round:∀ x,I x→PW P N c (thenD (Back st I μ ds m (μ x)) Q) (st x)):PW P N (.loop c) Q s:=fun κ B ρ a w hI=>by
 have key:∀ n x ρ a w1,μ x<n→I x→Inv κ B ρ (st x) N a w1→BelB B w w1→Code.rounds P c (lift κ B N w Q) n a w1:=by
  intro n
  induction n with
  | zero=>intro x ρ a w1 h; omega
  | succ n ih =>
   intro x ρ a w1 hn hx hI1 hb1
   rw [rounds_succ]
   refine Code.wp_mono ?_ (round x hx κ B ρ a w1 hI1)
   rintro e a' w' ⟨s',ρ',h1,h2,h3⟩
   cases e with
   | normal =>
    obtain ⟨x',q1,q2,q3,q4⟩:=h1
    have h2':=h2.sel ds m (by rw [q1]; exact q2)
    rw [q1] at h2'
    exact ih x' _ a' w' oM q3 h2' (hb1.trans h3)
   | _=>exact ⟨s',ρ',h1,h2,hb1.trans h3⟩
 have hI':=hI.sel ds m (by rw [h0]; exact hu)
 rw [h0] at hI'
 exact wp_loop_rounds _ (key (μ x0+1) x0 _ a w (Nat.lt_succ_self _) hI0 hI' (BelB.refl _ _))
def PR (P:Program) (N:Nat) (c:Code) (Q:Exit→St→Prop) (n:Nat) (s:St):Prop:=∀ κ B ρ a w0 w,Inv κ B ρ s N a w→BelB B w0 w→Code.rounds P c (lift κ B N w0 Q) n a w
theorem PW.rounds (n:Nat) (h:PR P N c Q n s):PW P N (.loop c) Q s:=fun κ B ρ a w hI=>wp_loop_rounds n (h κ B ρ a w w hI (BelB.refl _ _))
theorem PR.succ {n:Nat} (h:PW P N c (thenD (PR P N c Q n) Q) s):PR P N c Q (n+1) s:=fun κ B ρ a w0 w hI hb=>by
 rw [rounds_succ]
 refine Code.wp_mono ?_ (h κ B ρ a w hI)
 rintro e a' w' ⟨s',ρ',h1,h2,h3⟩
 cases e with
 | normal=>exact h1 κ B ρ' a' w0 w' h2 (hb.trans h3)
 | _=>exact ⟨s',ρ',h1,h2,hb.trans h3⟩
theorem PR.sel {n:Nat} (ds:List Nat) (m:Nat) (hs:s.sel ds m=s') (hu:s'.underB m=true) (h:PR P N c Q n s'):PR P N c Q n s:=fun κ B ρ a w0 w hI hb=>by
 subst hs
 exact h κ B _ a w0 w (hI.sel ds m hu) hb
end
theorem PC.mono {P:Program} {G:List (Nat×List D)} {f:FuncId} {ds:List D} {R R':D→Prop} (h:PC P G f ds R) (hR:∀ d,R d→R' d):PC P G f ds R':=fun κ w vs h1 h2 h3 h4=>(h κ w vs h1 h2 h3 h4).mono (by
 rintro e w' ⟨v,d,rfl,k1,k2,k3⟩
 exact ⟨v,d,rfl,hR d k1,k2,k3⟩)
theorem PC.more {P:Program} {G:List (Nat×List D)} {f:FuncId} {ds:List D} {R:D→Prop} (h:PC P [] f ds R):PC P G f ds R:=fun κ w vs h1 _ h3 h4=>h κ w vs h1 (fun x hx=>(nomatch hx)) h3 h4
theorem PC.weak {P:Program} {G G':List (Nat×List D)} {f:FuncId} {ds:List D} {R:D→Prop} (h:PC P G f ds R) (hg:∀ x ∈ G,x ∈ G'):PC P G' f ds R:=fun κ w vs h1 h2 h3 h4=>h κ w vs h1 (fun x hx=>h2 x (hg x hx)) h3 h4
theorem PC.eq {P:Program} {G:List (Nat×List D)} {f:FuncId} {ds:List D} {d d':D} (h:PC P G f ds (· = d)) (e:d=d'):PC P G f ds (· = d'):=e▸h
end Go.Proofs.Ytkhdnlkdcikdmaa.Dp
namespace Go.Proofs.Ytkhdnlkdcikdmaa.Dp
open Go.RowKit Go.Proofs.Ytkhdnlkdcikdmaa.Sm
open Go.Proofs.Ytkhdnlkdcikdmaa.Ev (Obl opnds dstB PT nx pt_put undef_bool pickB isRow_false seenL seenR seen_all takesB after)
set_option maxHeartbeats 1000000
set_option linter.unusedVariables false
set_option linter.unusedSimpArgs false
def hid (ρ : Own) (hs:List Nat) (k:Nat):Prop:=∃ b ∈ hs,∃ c,ρ[b]? = some (some (k,c))
structure Agree (ρ : Own) (hs:List Nat) (w u:World):Prop where
 size:w.heap.size≤u.heap.size
 block:∀ k,k<w.heap.size→¬ hid ρ hs k→u.heap[k]? = w.heap[k]?
def PO (P:Program) (N:Nat) (ops:Array Oper) (hs:List Nat) (n:Nat) (listed:Array Bool) (Q:Exit→St→Prop) (s:St):Prop :=
 ∀ κ B ρ a w0 w,Inv κ B ρ s N a w→BelB B w0 w→wpAnyH P .any ops (lift κ B N w0 Q) (Agree ρ hs w) n listed a w
def PO1 (P:Program) (N:Nat) (ops:Array Oper) (hs:List Nat) (n:Nat) (listed:Array Bool) (Q:Exit→St→Prop) (s:St) (i:Nat):Prop :=
 ∀ κ B ρ a w0 w,Inv κ B ρ s N a w→BelB B w0 w→wpOp P ops (lift κ B N w0 Q) i (fun a' w'=>Agree ρ hs w w'∧wpAnyH P .any ops (lift κ B N w0 Q) (Agree ρ hs w) n (listed.setIfInBounds i true) a' w') a w
def NoPanic (Q:Exit→St→Prop):Prop:=∀ c s,Q (.panic c) s→False
def isteps (P:Program) (w0:World) (N:Nat) (ops:Array Oper) (hs:List Nat):List Nat→St→Option (St×List Obl×List Prop)
  | [],s=>some (s,[],[])
  | i::r,s=>match ops[i]? with
    | none=>none
    | some o=>match gpath ops s o with
      | none=>none
      | some A=>if dstB N A o.dst&&closedB s A && !isMem o.op&&hs.all (fun b => !seesB s A o b) then
          match valD P w0 s A o with
          | none=>none
          | some (d,x1,p1)=>match isteps P w0 N ops hs r (s.put o.dst A d) with
            | none=>none
            | some (s2,x2,p2)=>some (s2,x1++x2,gneed s A p1++p2)
        else none
section
variable {κ : Nat→Prop} {B:Base} {N:Nat} {ρ ρ':Own} {s s':St} {a:Act} {w w' w0:World} {A:List (Nat×Bool)} {o:Oper} {ops:Array Oper} {P:Program} {d d':D} {v:Value} {rest l:List Oper} {Q:Exit→St→Prop} {G:List (Nat×List D)} {f:FuncId} {ds:List D} {R:D→Prop} {c:Code} {hs:List Nat} {n i:Nat} {listed:Array Bool}
theorem Agree.refl (ρ : Own) (hs:List Nat) (w:World):Agree ρ hs w w:=⟨Nat.le_refl _,fun _ _ _=>rfl⟩
theorem Fr.agree {T:List Nat} (h:Fr T ρ w ρ' w') (hT:T.all (fun b=>hs.contains b)=true) (hsz:w.heap.size≤w'.heap.size):Agree ρ hs w w':=by
 refine ⟨hsz,fun k hk hn=>h.keep k hk fun b hb c hc=>hn ⟨b,?_,c,hc⟩⟩
 have:=List.all_eq_true.1 hT b hb
 simpa using this
theorem Fr.agrees {T:List Nat} (h:Fr T ρ w ρ' w') (hT:T.all (fun b=>hs.contains b)=true) (hsz:w.heap.size≤w'.heap.size):∀ u,Agree ρ' hs w' u→Agree ρ hs w u:=by
 intro u hu
 have h1:=h.agree hT hsz
 refine ⟨Nat.le_trans hsz hu.size,fun k hk hn=>(hu.block k (Nat.lt_of_lt_of_le hk hsz) ?_).trans (h1.block k hk hn)⟩
 rintro ⟨b,hb,c,hc⟩
 obtain ⟨c',hc'⟩:=h.new b k c hc hk
 exact hn ⟨b,hb,c',hc'⟩
theorem wpAnyH_monoS {Q:Exit→Act→World→Prop} {S S':World→Prop} (h:∀ u,S' u→S u):∀ (fuel:Nat) (listed:Array Bool) (a:Act) (w:World),wpAnyH P .any ops Q S' fuel listed a w→wpAnyH P .any ops Q S fuel listed a w
 | 0,_,_,_,hh=>hh
 | fuel+1,_,_,_,hh=>⟨hh.1,fun i hi=>wpOp_mono (fun a' w' q=>⟨h w' q.1,wpAnyH_monoS h fuel _ a' w' q.2⟩) (hh.2 i hi)⟩
theorem wpOp_of {Q:Exit→Act→World→Prop} {K:Act→World→Prop} (ho:ops[i]? = some o) (h:wpList P ops (Exit.then K Q) [o] a w):wpOp P ops Q i K a w:=by
 unfold wpOp
 simp only [ho]
 unfold wpList at h
 split
 ·rename_i hw
  rw [if_pos hw] at h
  have key:∀ {r:Result Next},o.upon P a (fun a w=>wpList P ops (Exit.then K Q) [] a w) (Exit.then K Q) r→o.upon P a K Q r:=by
   intro r hr
   cases r with
   | ok n w'=>cases n <;> first|exact hr|exact Calls.mono hr (fun e w'' he=>by cases e <;> exact he)
   | halt x w'=>cases x <;> exact hr
  rcases h with h|h
  ·exact .inl (key h)
  ·exact .inr h
 ·rename_i hw
  rw [if_neg hw] at h
  exact h
theorem isteps_ok (hsel:Region.noSelect ops=true) (hnp:NoPanic Q) {ww:World}:∀ (l:List Nat) {s s':St} {a:Act} {obs:List Obl} {need:List Prop} {listed:Array Bool},Inv κ B ρ s N a w→isteps P w0 N ops hs l s=some (s',obs,need)→(∀ q ∈ obs,∀ g u,q.l g u=q.r g u)→(∀ p ∈ need,p)→takesB ops l listed=true →
  (∀ a',Inv κ B ρ s' N a' w→wpAnyH P .any ops (lift κ B N ww Q) (Agree ρ hs w) n (after l listed) a' w)→wpAnyH P .any ops (lift κ B N ww Q) (Agree ρ hs w) (n+l.length) listed a w
 | [],s,s',a,obs,need,listed,hI,hs',_,_,_,k=>by
  simp only [isteps,Option.some.injEq,Prod.mk.injEq] at hs'
  obtain ⟨rfl,rfl,rfl⟩:=hs'
  exact k a hI
 | i::r,s,s',a,obs,need,listed,hI,hs',hob,hn,ht,k=>by
  simp only [isteps] at hs'
  split at hs'
  ·cases hs'
  ·rename_i o ho
   split at hs'
   ·cases hs'
   ·rename_i A hA
    split at hs'
    ·rename_i hc
     simp only [Bool.and_eq_true] at hc
     obtain ⟨⟨⟨hd,hcl⟩,_⟩,hsee⟩:=hc
     split at hs'
     ·cases hs'
     ·rename_i d x1 p1 hv
      split at hs'
      ·cases hs'
      ·rename_i s2 x2 p2 h2
       simp only [Option.some.injEq,Prod.mk.injEq] at hs'
       obtain ⟨rfl,rfl,rfl⟩:=hs'
       simp only [takesB,Bool.and_eq_true] at ht
       have ih:∀ a',Inv κ B ρ (s.put o.dst A d) N a' w→wpAnyH P .any ops (lift κ B N ww Q) (Agree ρ hs w) (n+r.length) (listed.setIfInBounds i true) a' w:=fun a' hI'=>isteps_ok hsel hnp r hI' h2 (fun q hq=>hob q (List.mem_append_right _ hq)) (fun p hp=>hn p (List.mem_append_right _ hp)) ht.2 k
       have hQ:∀ (v:Value) (c:List PanicEntry) (a:Act) (w:World),lift κ B N ww Q (.panic c) (a.put o.dst v) w→lift κ B N ww Q (.panic c) a w:=by
        rintro v c a w ⟨s1,_,h1,_⟩
        exact (hnp c s1 h1).elim
       show wpAnyH P .any ops _ _ (n+r.length+1) listed a w
       by_cases hp:PT a A
       ·obtain ⟨v,h3,h4⟩:=valD_runU hI hv (fun q hq=>hob q (List.mem_append_left _ hq)) (by
         intro p hp1
         have hn1:∀ p ∈ gneed s A p1,p:=fun p hp=>hn p (List.mem_append_left _ hp)
         unfold gneed at hn1
         split at hn1
         ·exact hn1 p hp1
         ·exact hn1 _ (List.mem_map.2 ⟨p,hp1,rfl⟩) (path_of hI (closedB_of hcl) hp)) hp
        refine wpAnyH_take ho hsel ht.1.1 ht.1.2 (hQ v) (.inl ⟨(wanted_iff hI hA).2 hp,fun u hu=>h4 u (fun k hk=>hu.block k hk.1.2 ?_) (fun b g c hb hg=>hu.block g (hI.own b _ hg).2 ?_)⟩) (Agree.refl _ _ _) (ih _ (inv_put hI hd (fun _=>h3) fun h=>absurd hp h))
        ·rintro ⟨b,_,c,hc⟩
         exact hk.2 b _ hc rfl
        ·rintro ⟨b',hb',c',hc'⟩
         have hbb:b'=b:=hI.nd b' b _ _ hc' hg rfl
         subst hbb
         have:=List.all_eq_true.1 hsee b' hb'
         rw [hb] at this
         cases this
       ·refine wpAnyH_take ho hsel ht.1.1 ht.1.2 (hQ undef) (.inr ⟨?_,rfl⟩) (Agree.refl _ _ _) (ih _ (inv_put hI hd (fun h=>absurd h hp) fun _=>rfl))
        rw [Bool.eq_false_iff]
        exact fun h=>hp ((wanted_iff hI hA).1 h)
    ·cases hs'
noncomputable def ires (P:Program) (N:Nat) (ops:Array Oper) (hs l:List Nat) (s:St):St:=((isteps P default N ops hs l s).getD (s,[],[])).1
noncomputable def iobs (P:Program) (N:Nat) (ops:Array Oper) (hs l:List Nat) (s:St):List Obl:=((isteps P default N ops hs l s).getD (s,[],[])).2.1
noncomputable def ineed (P:Program) (N:Nat) (ops:Array Oper) (hs l:List Nat) (s:St):Prop:=andL ((isteps P default N ops hs l s).getD (s,[],[])).2.2
theorem PW.open {id:Nat} (hs:List Nat) (hm:P.follows .mixedOrders=true) (h:PO P N ops hs ops.size (Array.replicate ops.size false) Q s):PW P N (.region id ops true) Q s:=fun κ B ρ a w hI=>by
 have hb:Below w.heap.size w w.drew:=⟨rfl,rfl,rfl,Nat.le_refl _,fun _ _=>rfl⟩
 exact wp_region_held (S:=Agree ρ hs w.drew) hm (h κ B ρ a w w.drew (hI.later hb) (BelB.of_below hb hI.big))
theorem PO.takes (l:List Nat) (m:Nat) (dl:List Nat) (mm:Nat) {p:Prop} (hsel:Region.noSelect ops=true) (hnp:NoPanic Q) (hn:m=n+l.length) (ht:takesB ops l listed=true) (hst:(isteps P default N ops hs l s).isSome=true) (hres:(ires P N ops hs l s).sel dl mm=s') (hu:s'.underB mm=true) (hmm:s.mem.length=mm) (ho:seenL (iobs P N ops hs l s)=seenR (iobs P N ops hs l s)) (hne:ineed P N ops hs l s=p) (hp:p) (h:PO P N ops hs n (after l listed) Q s'):PO P N ops hs m listed Q s:=fun κ B ρ a w0 w hI hb=>by
 subst hn
 obtain ⟨x,hx⟩:=Option.isSome_iff_exists.1 hst
 obtain ⟨s1,ob,nd⟩:=x
 have e1:ires P N ops hs l s=s1:=by unfold ires; rw [hx]; rfl
 have e2:iobs P N ops hs l s=ob:=by unfold iobs; rw [hx]; rfl
 have e3:ineed P N ops hs l s=andL nd:=by unfold ineed; rw [hx]; rfl
 rw [e1] at hres
 rw [e2] at ho
 have hnd:andL nd:=by rw [← e3,hne]; exact hp
 subst hres
 have hr : ρ.take mm = ρ := List.take_of_length_le (by rw [hI.len,hmm]; exact Nat.le_refl _)
 refine isteps_ok hsel hnp l hI hx (seen_all ho) (andL_all hnd) ht fun a' hI' => ?_
 have:=hI'.sel dl mm hu
 rw [hr] at this
 exact h κ B ρ a' w0 w this hb
theorem PO.done (hr:Region.ready .any ops listed=[]) (h:Q .normal s):PO P N ops hs n listed Q s:=fun κ B ρ a w0 w hI hb=>wpAnyH_done hr ⟨s,ρ,h,hI,hb⟩ n
theorem PO.next (rs:List Nat) (hr:Region.ready .any ops listed=rs) (hne:rs≠[]) (h:∀ i ∈ rs,PO1 P N ops hs n listed Q s i):PO P N ops hs (n+1) listed Q s:=fun κ B ρ a w0 w hI hb=>wpAnyH_all hr hne fun i hi=>h i hi κ B ρ a w0 w hI hb
theorem PO.one (i:Nat) (hr:Region.ready .any ops listed=[i]) (h:PO1 P N ops hs n listed Q s i):PO P N ops hs (n+1) listed Q s:=PO.next [i] hr (by simp) fun j hj=>by rw [List.mem_singleton.1 hj]; exact h
theorem PO1.mem (dl:List Nat) (mm:Nat) {p:Prop} (ho:ops[i]? = some o) (hA:gpath ops s o=some []) (hd:dstB N [] o.dst=true) (hT:(touch s o).all (fun b=>hs.contains b)=true) (hx:(memD P default s o).isSome=true) (hres:((memD P default s o).getD (s,[],[])).1.sel dl mm=s') (hu:s'.underB mm=true) (hmm:((memD P default s o).getD (s,[],[])).1.mem.length=mm) (hob:seenL ((memD P default s o).getD (s,[],[])).2.1=seenR ((memD P default s o).getD (s,[],[])).2.1) (hne:andL ((memD P default s o).getD (s,[],[])).2.2=p) (hp:p) (h:PO P N ops hs n (listed.setIfInBounds i true) Q s'):PO1 P N ops hs n listed Q s i:=fun κ B ρ a w0 w hI hb=>by
 subst hres
 obtain ⟨x,hx⟩:=Option.isSome_iff_exists.1 hx
 rw [hx] at hu hmm hob hne h
 obtain ⟨s1,ob,nd⟩:=x
 refine wpOp_of ho (memD_ok hI hA hd hx (seen_all hob) (andL_all (show andL nd by rw [show andL nd=p from hne]; exact hp)) fun ρ' a' w' hI' hb' hfr => ?_)
 refine ⟨hfr.agree hT hb'.size,wpAnyH_monoS (hfr.agrees hT hb'.size) _ _ _ _ ?_⟩
 have hr : ρ'.take mm = ρ':=List.take_of_length_le (by rw [hI'.len]; exact Nat.le_of_eq hmm)
 have:=hI'.sel dl mm hu
 rw [hr] at this
 exact h κ B ρ' a' w0 w' this (hb.trans hb')
theorem PO1.gcall (ho:ops[i]? = some o) (hA:gpath ops s o=some A) (hcl:closedB s A=true) (hd:dstB N A o.dst=true) (hc:callD P s A o=some (f,ds)) (hsh:shuts ds=true) (hG:s.gl=G) (d:D) (hpc:pathP s A→PC P G f ds (· = d)) (k:PO P N ops hs n (listed.setIfInBounds i true) Q (s.put o.dst A d)):PO1 P N ops hs n listed Q s i:=fun κ B ρ a w0 w hI hb0=>by
 refine wpOp_of ho ?_
 have hT:([]:List Nat).all (fun b=>hs.contains b)=true:=rfl
 by_cases hp:PT a A
 ·obtain ⟨vs,h1,h2,h3⟩:=run_call hI hp hc
  refine BigFrame.wpList_want ((wanted_iff hI hA).2 hp) fun K hK => ?_
  unfold Oper.wp
  rw [h1,Oper.upon_enter]
  refine (hpc (path_of hI (closedB_of hcl) hp) (okW κ w ρ) w vs (fun g hg=>hg.1.2) (by rw [← hG]; exact hI.gl) h2 fun j d v k1 k2=>shut_rep (shuts_mem hsh d (List.mem_of_getElem? k1)) (h3 j d v k1 k2)).mono ?_
  rintro e w' ⟨v,d',rfl,rfl,hrep,hb⟩
  have hfr:Fr [] ρ w ρ w':=Fr.later _ hb
  refine hK _ _ ⟨hfr.agree hT hb.size,wpAnyH_monoS (hfr.agrees hT hb.size) _ _ _ _ (k κ B ρ _ w0 w' (inv_put (hI.later hb) hd (fun _ => .one (.c ?_)) fun h=>absurd hp h) (hb0.trans (BelB.of_below hb hI.big)))⟩
  refine hrep.mono fun g hg=>⟨?_,rfl⟩
  rcases hg.1 with h|h
  ·exact ⟨⟨h.1.1,hg.2⟩,h.2⟩
  ·exact ⟨⟨hI.hκ g (.inl (Nat.le_trans hI.big h)),hg.2⟩,fun b x hx=>by have:=(hI.own b x hx).2; omega⟩
 ·have hw:Region.wanted o (yielded ops a.tmps)=false:=by
   rw [Bool.eq_false_iff]
   exact fun h=>hp ((wanted_iff hI hA).1 h)
  exact wpList_skip hw ⟨Agree.refl _ _ _,k κ B ρ _ w0 w (inv_put hI hd (fun h=>absurd h hp) fun _=>rfl) hb0⟩
end
end Go.Proofs.Ytkhdnlkdcikdmaa.Dp
namespace Go.Proofs.Ytkhdnlkdcikdmaa.Dp
open Go.RowKit Go.Proofs.Ytkhdnlkdcikdmaa.Sm
set_option maxHeartbeats 1000000
set_option linter.unusedVariables false
inductive RemL:List Obj→List Obj→Prop where
 | nil:RemL [] []
 | same {o:Obj} {l l':List Obj} (h:RemL l l'):RemL (o::l) (o::l')
 | row {t:TypeId} {z n n':Nat} {f f':Nat→List D} {l l':List Obj} (hn:n=n') (hf:∀ j,j<n→f j=f' j) (h:RemL l l'):RemL (.row t z n f::l) (.row t z n' f'::l')
structure Rem (s s':St):Prop where
 tab:s.tab=s'.tab
 gl:s.gl=s'.gl
 fx:s.fx=s'.fx
 mem:RemL s.mem s'.mem
theorem RemL.refl:∀ l,RemL l l
 | [] => .nil
 | _::r => .same (RemL.refl r)
theorem Rem.refl (s:St):Rem s s:=⟨rfl,rfl,rfl,.refl _⟩
theorem RemL.get:∀ {l l':List Obj},RemL l l'→l.length=l'.length∧∀ (b:Nat) (o':Obj),l'[b]? = some o'→∃ o,l[b]? = some o∧∀ κ w ρ,ObjOk κ w ρ b o→ObjOk κ w ρ b o':=by
 intro l l' h
 have key:∀ (k:Nat),l.length=l'.length∧∀ (b:Nat) (o':Obj),l'[b]? = some o'→∃ o,l[b]? = some o∧∀ κ w ρ,ObjOk κ w ρ (k+b) o→ObjOk κ w ρ (k+b) o':=by
  induction h with
  | nil=>exact fun k=>⟨rfl,fun b o' h=>by simp at h⟩
  | same h ih =>
   intro k
   refine ⟨by simp [(ih k).1],fun b o' hb => ?_⟩
   cases b with
   | zero=>exact ⟨_,rfl,fun κ w ρ h=>by simp only [List.getElem?_cons_zero,Option.some.injEq] at hb; rw [← hb]; exact h⟩
   | succ b =>
    obtain ⟨o,h1,h2⟩:=(ih (k+1)).2 b o' (by simpa using hb)
    exact ⟨o,by simpa using h1,fun κ w ρ h=>by have:=h2 κ w ρ (by rw [show k+1+b=k+(b+1) by omega]; exact h); rw [show k+1+b=k+(b+1) by omega] at this; exact this⟩
  | row hn hf h ih =>
   intro k
   refine ⟨by simp [(ih k).1],fun b o' hb => ?_⟩
   cases b with
   | zero =>
    refine ⟨_,rfl,fun κ w ρ h => ?_⟩
    simp only [List.getElem?_cons_zero,Option.some.injEq] at hb
    rw [← hb]
    subst hn
    rcases h with h|⟨g,c,cur,q1,q2,q3,q4,q5,q6⟩
    ·exact .inl h
    ·exact .inr ⟨g,c,cur,q1,q2,q3,q4,q5,fun i hi=>by rw [← hf i hi]; exact q6 i hi⟩
   | succ b =>
    obtain ⟨o,h1,h2⟩:=(ih (k+1)).2 b o' (by simpa using hb)
    exact ⟨o,by simpa using h1,fun κ w ρ h=>by have:=h2 κ w ρ (by rw [show k+1+b=k+(b+1) by omega]; exact h); rw [show k+1+b=k+(b+1) by omega] at this; exact this⟩
 have:=key 0
 simpa using this
theorem Inv.rem {κ : Nat→Prop} {B:Base} {N:Nat} {ρ : Own} {s s':St} {a:Act} {w:World} (hI:Inv κ B ρ s N a w) (h:Rem s s'):Inv κ B ρ s' N a w:=by
 obtain ⟨h1,h2⟩:=h.mem.get
 refine ⟨hI.size,hI.dfr,by rw [← h.tab]; exact hI.tab,by rw [← h1]; exact hI.len,hI.own,hI.nd,fun b o hb => ?_,by rw [← h.gl]; exact hI.gl,hI.big,hI.hκ,by rw [← h.fx]; exact hI.fx,hI.fix⟩
 obtain ⟨o',q1,q2⟩:=h2 b o hb
 exact q2 _ _ _ (hI.mem b o' q1)
section
variable {P:Program} {N:Nat} {ops:Array Oper} {l:List Oper} {Q:Exit→St→Prop} {s s':St} {c:Code} {hs:List Nat} {n:Nat} {listed:Array Bool}
theorem PW.rem (h:Rem s s') (k:PW P N c Q s'):PW P N c Q s:=fun κ B ρ a w hI=>k κ B ρ a w (hI.rem h)
theorem PL.rem (h:Rem s s') (k:PL P N ops l Q s'):PL P N ops l Q s:=fun κ B ρ a w0 w hI hb=>k κ B ρ a w0 w (hI.rem h) hb
theorem PO.rem (h:Rem s s') (k:PO P N ops hs n listed Q s'):PO P N ops hs n listed Q s:=fun κ B ρ a w0 w hI hb=>k κ B ρ a w0 w (hI.rem h) hb
def BackR {α : Type} (st : α → St) (I : α → Prop) (μ : α → Nat) (ds:List Nat) (m:Nat) (n:Nat) (s':St):Prop:=∃ x' s1,s'.sel ds m=s1∧s1.underB m=true∧Rem s1 (st x')∧I x' ∧ μ x'<n
theorem BackR.of {α : Type} {st : α → St} {I : α → Prop} {μ : α → Nat} {ds:List Nat} {m n:Nat} {s1:St} (x' : α) (h:s'.sel ds m=s1) (hu:s1.underB m=true) (hs:Rem s1 (st x')) (hI:I x') (hμ : μ x'<n):BackR st I μ ds m n s':=⟨x',s1,h,hu,hs,hI,hμ⟩
theorem PW.loopR {α : Type} (st : α → St) (I : α → Prop) (μ : α → Nat) (ds:List Nat) (m:Nat) (x0 : α) {s1:St} (h0:s.sel ds m=s1) (hu:s1.underB m=true) (hr:Rem s1 (st x0)) (hI0:I x0) (round:∀ x,I x→PW P N c (thenD (BackR st I μ ds m (μ x)) Q) (st x)):PW P N (.loop c) Q s:=fun κ B ρ a w hI=>by
 have key:∀ n x ρ a w1,μ x<n→I x→Inv κ B ρ (st x) N a w1→BelB B w w1→Code.rounds P c (lift κ B N w Q) n a w1:=by
  intro n
  induction n with
  | zero=>intro x ρ a w1 h; omega
  | succ n ih =>
   intro x ρ a w1 hn hx hI1 hb1
   rw [rounds_succ]
   refine Code.wp_mono ?_ (round x hx κ B ρ a w1 hI1)
   rintro e a' w' ⟨s',ρ',h1,h2,h3⟩
   cases e with
   | normal =>
    obtain ⟨x',s1,q1,q2,q3,q4,q5⟩:=h1
    have h2':=h2.sel ds m (by rw [q1]; exact q2)
    rw [q1] at h2'
    exact ih x' _ a' w' oM q4 (h2'.rem q3) (hb1.trans h3)
   | _=>exact ⟨s',ρ',h1,h2,hb1.trans h3⟩
 have hI':=hI.sel ds m (by rw [h0]; exact hu)
 rw [h0] at hI'
 exact wp_loop_rounds _ (key (μ x0+1) x0 _ a w (Nat.lt_succ_self _) hI0 (hI'.rem hr) (BelB.refl _ _))
end
theorem getD_set {α : Type} (l:List α) (i j:Nat) (v d : α) (hi:i<l.length):(l.set i v).getD j d=if j=i then v else l.getD j d:=by
 simp only [List.getD_eq_getElem?_getD,List.getElem?_set]
 split
 ·rename_i h; subst h; simp
 ·rename_i h; rw [if_neg (fun e=>h e.symm)]
theorem getD_app {α : Type} (l m:List α) (j:Nat) (d : α):(l++m).getD j d=if j<l.length then l.getD j d else m.getD (j-l.length) d:=by
 simp only [List.getD_eq_getElem?_getD,List.getElem?_append]
 split <;> rfl
theorem getD_rep {α : Type} (n j:Nat) (v d : α) (hj:j<n):(List.replicate n v).getD j d=v:=by
 simp [List.getD_eq_getElem?_getD,hj]
end Go.Proofs.Ytkhdnlkdcikdmaa.Dp
namespace Go.Proofs.Ytkhdnlkdcikdmaa.Dp
open Go.RowKit Go.Proofs.Ytkhdnlkdcikdmaa.Sm
open Go.Proofs.Ytkhdnlkdcikdmaa.Ev (Obl opnds dstB PT nx pt_put undef_bool pickB isRow_false seenL seenR seen_all resRun)
set_option maxHeartbeats 1000000
set_option linter.unusedVariables false
set_option linter.unusedSimpArgs false
def ObjC (w:World) (ok:Nat→Prop) (x:Option (Nat×Nat)):Obj→Prop
 | .dead=>x=none
 | .var t cs=>∃ (g:Nat) (vs:List Value),x=some (g,cs.length)∧w.heap[g]? = some (.cells vs.toArray t (0,0))∧vs.length=cs.length∧∀ (j:Nat) (d:D) (v:Value),cs[j]? = some d→vs[j]? = some v→RepC w ok d v
 | .row t z n f=>(x=none∧n=0)∨∃ (g c:Nat) (cur:Array Value),x=some (g,c)∧w.heap[g]? = some (.cells cur t (0,0))∧n≤c∧c≤maxLen∧cur.size=c*z ∧
  ∀ i,i<n→(f i).length=z∧(f i).all D.one=true∧∀ (j:Nat) (d:D),(f i)[j]? = some d→∃ v,cur[i*z+j]? = some v∧RepC w ok d v
def Obj.shutB:Obj→Bool
 | .var _ cs=>cs.all D.shut
 | _=>true
theorem ObjC.of {κ : Nat→Prop} {w:World} {ρ : Own} {b:Nat} {ob:Obj} (h:ObjOk κ w ρ b ob) (hs:ob.shutB=true) {x:Option (Nat×Nat)} (hx : ρ[b]? = some x):ObjC w (okW κ w ρ) x ob:=by
 cases ob with
 | dead=>rw [show ρ[b]? = some none from h] at hx; injection hx with hx; exact hx.symm
 | var t cs =>
  obtain ⟨g,vs,q1,q2,q3,q4⟩:=h
  rw [q1] at hx
  injection hx with hx
  exact ⟨g,vs,hx.symm,q2,q3,fun j d v a b=>(q4 j d v a b).shut (List.all_eq_true.1 hs d (List.mem_of_getElem? a))⟩
 | row t z n f =>
  rcases h with ⟨q1,q2⟩|⟨g,c,cur,q1,q⟩
  ·rw [q1] at hx; injection hx with hx; exact .inl ⟨hx.symm,q2⟩
  ·rw [q1] at hx; injection hx with hx; exact .inr ⟨g,c,cur,hx.symm,q⟩
theorem ObjC.to {κ : Nat→Prop} {w:World} {ρ : Own} {b:Nat} {ob:Obj} {x:Option (Nat×Nat)} {ok:Nat→Prop} (h:ObjC w ok x ob) (hx : ρ[b]? = some x) (hk:∀ g,ok g→okW κ w ρ g):ObjOk κ w ρ b ob:=by
 have hm:∀ g,ok g→okW κ w ρ g∧w.heap[g]? = w.heap[g]? := fun g hg=>⟨hk g hg,rfl⟩
 cases ob with
 | dead=>rw [show x=none from h] at hx; exact hx
 | var t cs =>
  obtain ⟨g,vs,rfl,q2,q3,q4⟩:=h
  exact ⟨g,vs,hx,q2,q3,fun j d v a b => .c ((q4 j d v a b).mono hm)⟩
 | row t z n f =>
  rcases h with ⟨rfl,q2⟩|⟨g,c,cur,rfl,q2,q3,q4,q5,q6⟩
  ·exact .inl ⟨hx,q2⟩
  ·refine .inr ⟨g,c,cur,hx,q2,q3,q4,q5,fun i hi=>⟨(q6 i hi).1,(q6 i hi).2.1,fun j d hj => ?_⟩⟩
   obtain ⟨v,k1,k2⟩:=(q6 i hi).2.2 j d hj
   exact ⟨v,k1,k2.mono hm⟩
def PM (P:Program) (G:List (Nat×List D)) (f:FuncId) (ds:List D) (ob:Obj) (R:D→Obj→Prop):Prop :=
 ∀ (κ : Nat→Prop) (w:World) (x:Option (Nat×Nat)) (vs:List Value),(∀ g,κ g→g<w.heap.size)→(∀ y,x=some y→y.1<w.heap.size∧¬ κ y.1)→(∀ x ∈ G,GlC w κ x)→ObjC w κ x ob→vs.length=ds.length→(∀ (j:Nat) (d:D) (v:Value),ds[j]? = some d→vs[j]? = some v→RepO w κ [x] d v) →
  Calls P f vs.toArray w fun e w'=>∃ v d ob',e = .returned v∧R d ob'∧RepC w' (fun g=>(κ g∨w.heap.size≤g)∧g<w'.heap.size) d v∧ObjC w' (fun g=>(κ g∨w.heap.size≤g)∧g<w'.heap.size) x ob' ∧
   w'.os=w.os∧w'.tape=w.tape∧w'.output=w.output∧w.heap.size≤w'.heap.size∧∀ k,k<w.heap.size→(∀ c,x≠some (k,c))→w'.heap[k]? = w.heap[k]?
def retM (P:Program) (rs:List ResultVar) (R:D→Obj→Prop):Exit→St→Prop
 | .normal,s=>∃ d ps ob,resAll P s rs=some (d,ps)∧andL ps∧s.mem[0]? = some ob∧ob.shutB=true∧R d ob
 | .ret,s=>∃ d ps ob,resAll P s rs=some (d,ps)∧andL ps∧s.mem[0]? = some ob∧ob.shutB=true∧R d ob
 | _,_=>False
theorem retM_ret {P:Program} {rs:List ResultVar} {R:D→Obj→Prop} {s:St} {d:D} {ps:List Prop} {ob:Obj} (h:resAll P s rs=some (d,ps)) (hp:andL ps) (h0:s.mem[0]? = some ob) (hs:ob.shutB=true) (hR:R d ob):retM P rs R .ret s:=⟨d,ps,ob,h,hp,h0,hs,hR⟩
theorem retM_normal {P:Program} {rs:List ResultVar} {R:D→Obj→Prop} {s:St} {d:D} {ps:List Prop} {ob:Obj} (h:resAll P s rs=some (d,ps)) (hp:andL ps) (h0:s.mem[0]? = some ob) (hs:ob.shutB=true) (hR:R d ob):retM P rs R .normal s:=⟨d,ps,ob,h,hp,h0,hs,hR⟩
theorem RepO.keep {w:World} {ok ok':Nat→Prop} {ρ : Own} {d:D} {v:Value} (h:RepO w ok ρ d v) (hk:∀ g,ok g→ok' g):RepO w ok' ρ d v:=by
 have h1:∀ {d:D} {v:Value},Rep1 w ok ρ d v→Rep1 w ok' ρ d v:=by
  intro d v h
  cases h with
  | c h=>exact .c (h.mono fun g hg=>⟨hk g hg,rfl⟩)
  | p h=>exact .p h
  | h h hn=>exact .h h hn
  | h0 h=>exact .h0 h
  | m h hk hc ho=>exact .m h hk hc ho
  | m0 h=>exact .m0 h
 cases h with
 | one h=>exact .one (h1 h)
 | r hl hd=>exact .r hl fun j d v a b=>h1 (hd j d v a b)
 | k hl hd=>exact .k hl fun j d v a b=>h1 (hd j d v a b)
theorem PM.of {P:Program} {G:List (Nat×List D)} {f:FuncId} {fn:Func} {c:Code} {ds:List D} {ob:Obj} {R:D→Obj→Prop} {N:Nat} (hf:P.funcs[f]? = some fn) (hb:fn.body=some c) (hn:fn.ntmps=N) (hle:ds.length≤N) (h:PW P N c (retM P fn.results.toList R) { tab:=entsD 0 ds,mem:=[ob],gl:=G,fx:=1 }):PM P G f ds ob R:=by
 intro κ w x vs hκ hx hG hob hl hd
 have hsz:(vs.toArray++Array.replicate (fn.ntmps-vs.toArray.size) undef).size=N:=by simp; omega
 let κ1:Nat→Prop:=fun g => κ g∨w.heap.size≤g∨∃ c,x=some (g,c)
 have get0:∀ (b:Nat) (y:Option (Nat×Nat)),[x][b]? = some y→b=0∧y=x:=by
  intro b y h
  cases b with
  | zero=>simp only [List.getElem?_cons_zero,Option.some.injEq] at h; exact ⟨rfl,h.symm⟩
  | succ b=>simp at h
 have hkw:∀ g,κ g→okW κ1 w [x] g:=fun g hg=>⟨⟨.inl hg,hκ g hg⟩,fun b' y hy e=>by
  obtain ⟨_,h2⟩:=get0 b' _ hy
  exact (hx y h2.symm).2 (by rw [e]; exact hg)⟩
 have hmono:∀ b,κ b→okW κ1 w [x] b∧w.heap[b]? = w.heap[b]? := fun b hb=>⟨hkw b hb,rfl⟩
 have hI:Inv κ1 ⟨w.heap.size,[x],1⟩ [x] { tab:=entsD 0 ds,mem:=[ob],gl:=G,fx:=1 } N { tmps:=vs.toArray++Array.replicate (fn.ntmps-vs.toArray.size) undef,defers:=[] } w:=by
  refine ⟨hsz,rfl,fun e he => ?_,rfl,fun b y hy => ?_,fun b b' y y' h1 h2 _=>by rw [(get0 b _ h1).1,(get0 b' _ h2).1],fun b o hm => ?_,fun y hy=>(hG y hy).mono hmono,Nat.le_refl _,?_,rfl,fun i y _ h=>h⟩
  ·obtain ⟨j,d,h1,rfl⟩:=entsD_mem _ _ _ he
   have hj:j<vs.length:=by rw [hl]; exact (List.getElem?_eq_some_iff.1 h1).1
   refine ⟨fun _ => ?_,fun h=>absurd pt_nil h,?_⟩
   ·show RepO _ _ _ d (Sm.sl _ (0+j))
    have h2:=List.getElem?_eq_getElem hj
    have h3:(vs.toArray++Array.replicate (fn.ntmps-vs.toArray.size) undef)[j]? = some vs[j]:=by rw [Array.getElem?_append_left (by simpa using hj)]; simp
    have h4:Sm.sl ⟨vs.toArray++Array.replicate (fn.ntmps-vs.toArray.size) undef,[]⟩ (0+j)=vs[j]:=by
     unfold Sm.sl
     rw [Nat.zero_add]
     simp only [Array.getD_eq_getD_getElem?,h3,Option.getD_some]
    rw [h4]
    exact (hd j d _ h1 h2).keep hkw
   ·show 0+j<(vs.toArray++Array.replicate (fn.ntmps-vs.toArray.size) undef).size
    rw [hsz]
    omega
  ·obtain ⟨rfl,h2⟩:=get0 b _ hy
   exact ⟨.inr ⟨0,y,by rw [h2]; rfl,rfl⟩,(hx y h2.symm).1⟩
  ·cases b with
   | zero =>
    simp only [List.getElem?_cons_zero,Option.some.injEq] at hm
    subst hm
    exact hob.to (by rfl) hkw
   | succ b=>simp at hm
  ·rintro g (hg|⟨i,y,h1,h2⟩)
   ·exact .inr (.inl hg)
   ·obtain ⟨_,h3⟩:=get0 i _ h1
    refine .inr (.inr ⟨y.2,?_⟩)
    rw [← h3,← h2]
 refine calls_of_wp hf hb (Code.wp_mono ?_ (h _ _ _ _ _ hI))
 have fin:∀ (s':St) (ρ':Own) (a':Act) (w':World),(∃ d ps ob',resAll P s' fn.results.toList=some (d,ps)∧andL ps∧s'.mem[0]? = some ob'∧ob'.shutB=true∧R d ob')→Inv κ1 ⟨w.heap.size,[x],1⟩ ρ' s' N a' w'→BelB ⟨w.heap.size,[x],1⟩ w w'→a'.defers=[]∧∃ v,(results fn a'.tmps).run P w' = .ok v w'∧∃ v' d ob',Ending.returned v = .returned v'∧R d ob'∧RepC w' (fun g=>(κ g∨w.heap.size≤g)∧g<w'.heap.size) d v'∧ObjC w' (fun g=>(κ g∨w.heap.size≤g)∧g<w'.heap.size) x ob' ∧
   w'.os=w.os∧w'.tape=w.tape∧w'.output=w.output∧w.heap.size≤w'.heap.size∧∀ k,k<w.heap.size→(∀ c,x≠some (k,c))→w'.heap[k]? = w.heap[k]? := by
  rintro s' ρ' a' w' ⟨d,ps,ob',h1,h2,h3,h4,h5⟩ hI' hb'
  obtain ⟨v,k1,k2⟩:=resAll_run hI' h1 (andL_all h2)
  have hx0 : ρ'[0]? = some x:=hI'.fix 0 x Nat.zero_lt_one rfl
  have hdown:∀ g,(κ1 g∧g<w'.heap.size)→(∀ c,x≠some (g,c))→(κ g∨w.heap.size≤g)∧g<w'.heap.size:=by
   rintro g ⟨h6|h6|⟨c,h6⟩,h7⟩ hn
   ·exact ⟨.inl h6,h7⟩
   ·exact ⟨.inr h6,h7⟩
   ·exact absurd h6 (hn c)
  refine ⟨hI'.dfr,v,k1,v,d,ob',rfl,h5,k2.mono (fun g hg=>⟨hdown g hg.1 fun c hc=>hg.2 ⟨0,(g,c),Nat.zero_lt_one,by rw [hc]; rfl,rfl⟩,rfl⟩),?_,hb'.os,hb'.tape,hb'.output,hb'.size,fun k hk hn=>hb'.block k hk fun ⟨i,y,q1,q2⟩=>hn y.2 (by rw [← (get0 i _ q1).2,← q2])⟩
  have hoc:=ObjC.of (hI'.mem 0 ob' h3) h4 hx0
  have hok:∀ g,okW κ1 w' ρ' g→(κ g∨w.heap.size≤g)∧g<w'.heap.size:=fun g hg=>hdown g hg.1 fun c hc=>hg.2 0 (g,c) (by rw [hx0,hc]) rfl
  have hm:∀ g,okW κ1 w' ρ' g→((κ g∨w.heap.size≤g)∧g<w'.heap.size)∧w'.heap[g]? = w'.heap[g]? := fun g hg=>⟨hok g hg,rfl⟩
  cases ob' with
  | dead=>exact hoc
  | var t cs =>
   obtain ⟨g,vs,q1,q2,q3,q4⟩:=hoc
   exact ⟨g,vs,q1,q2,q3,fun j d v a b=>(q4 j d v a b).mono hm⟩
  | row t z n f =>
   rcases hoc with q|⟨g,c,cur,q1,q2,q3,q4,q5,q6⟩
   ·exact .inl q
   ·refine .inr ⟨g,c,cur,q1,q2,q3,q4,q5,fun i hi=>⟨(q6 i hi).1,(q6 i hi).2.1,fun j d hj => ?_⟩⟩
    obtain ⟨v,r1,r2⟩:=(q6 i hi).2.2 j d hj
    exact ⟨v,r1,r2.mono hm⟩
 rintro e a' w' ⟨s',ρ',h1,h2,h3⟩
 cases e with
 | normal=>exact fin s' ρ' a' w' h1 h2 h3
 | ret=>exact fin s' ρ' a' w' h1 h2 h3
 | _=>exact h1.elim
theorem Inv.asRow {κ : Nat→Prop} {B:Base} {N:Nat} {ρ : Own} {s:St} {a:Act} {w:World} (hI:Inv κ B ρ s N a w) {b:Nat} {t:TypeId} {cs:List D} {f:Nat→List D} {n:Nat} (hm:s.mem[b]? = some (.var t cs)) (hn:n=cs.length) (hmax:n≤maxLen) (hsh:cs.all D.shut=true) (h1:cs.all D.one=true) (hf:∀ j,j<n→f j=[cs.getD j .any]):Inv κ B ρ (s.setMem b (.row t 1 n f)) N a w:=by
 have hob:=hI.mem b _ hm
 obtain ⟨g,vs,q1,q2,q3,q4⟩:=hob
 refine ⟨hI.size,hI.dfr,hI.tab,by simp [St.setMem,hI.len],hI.own,hI.nd,fun k o hm' => ?_,hI.gl,hI.big,hI.hκ,hI.fx,hI.fix⟩
 have hm2:(s.mem.set b (.row t 1 n f))[k]? = some o:=hm'
 by_cases hkb:k=b
 ·subst hkb
  rw [List.getElem?_set_self (List.getElem?_eq_some_iff.1 hm).1] at hm2
  injection hm2 with hm2
  subst hm2 hn
  refine .inr ⟨g,cs.length,vs.toArray,q1,q2,Nat.le_refl _,hmax,by simp [q3],fun i hi => ?_⟩
  rw [hf i hi]
  have hg:cs.getD i .any=cs[i]:=by simp [hi]
  have hmem:=List.getElem_mem hi
  refine ⟨rfl,by simp [hi,List.all_eq_true.1 h1 _ hmem],fun j d hj => ?_⟩
  cases j with
  | zero =>
   simp only [List.getElem?_cons_zero,Option.some.injEq] at hj
   rw [hg] at hj
   have hv:vs[i]? = some vs[i]:=List.getElem?_eq_getElem oM
   refine ⟨vs[i],by simp [show i<vs.length by omega],?_⟩
   have:=q4 i cs[i] _ (List.getElem?_eq_getElem hi) hv
   rw [← hj]
   exact this.shut (List.all_eq_true.1 hsh _ hmem)
  | succ j=>simp at hj
 ·rw [List.getElem?_set_ne (Ne.symm hkb)] at hm2
  exact hI.mem k o hm2
theorem PW.asRow {P:Program} {N:Nat} {c:Code} {Q:Exit→St→Prop} {s s':St} (b:Nat) {t:TypeId} {cs:List D} {f:Nat→List D} {n:Nat} (hm:s.mem[b]? = some (.var t cs)) (hn:n=cs.length) (hmax:n≤maxLen) (hsh:cs.all D.shut=true) (h1:cs.all D.one=true) (hf:∀ j,j<n→f j=[cs.getD j .any]) (he:s.setMem b (.row t 1 n f)=s') (h:PW P N c Q s'):PW P N c Q s:=fun κ B ρ a w hI=>by
 subst he
 exact h κ B ρ a w (hI.asRow hm hn hmax hsh h1 hf)
def lendD (b:Nat):D→Option D
 | .p b1 z1 i1 o1=>if b1 == b then some (.p 0 z1 i1 o1) else none
 | .h b1 n1=>if b1 == b then some (.h 0 n1) else none
 | .m b1 z1 o1 n1=>if b1 == b then some (.m 0 z1 o1 n1) else none
 | d=>if shuts [d] then some d else none
def lendL (b:Nat):List D→Option (List D)
 | []=>some []
 | d::r=>match lendD b d,lendL b r with
  | some d',some l=>some (d'::l)
  | _,_=>none
section
variable {κ : Nat→Prop} {B:Base} {N:Nat} {ρ ρ':Own} {s s':St} {a:Act} {w w' w0:World} {A:List (Nat×Bool)} {o:Oper} {ops:Array Oper} {P:Program} {d d':D} {v:Value} {rest l:List Oper} {Q:Exit→St→Prop} {G:List (Nat×List D)} {f:FuncId} {ds ds0:List D} {R:D→Obj→Prop} {c:Code} {hs:List Nat} {n i b:Nat} {listed:Array Bool} {ob:Obj}
theorem shutRep {ok:Nat→Prop} {d:D} (hs:shuts [d]=true) (h:RepO w ok ρ d v):RepO w ok ρ' d v:=by
 have:=shut_rep hs h
 exact .one (.c this)
theorem lendD_rep {ok:Nat→Prop} {x:Option (Nat×Nat)} (hx : ρ[b]? = some x) (h:lendD b d=some d') (hr:RepO w ok ρ d v):RepO w ok [x] d' v:=by
 cases d with
 | p b1 z1 i1 o1 =>
  simp only [lendD] at h
  split at h
  ·rename_i he
   obtain rfl:b1=b:=by simpa using he
   injection h with h
   subst h
   cases hr with
   | one hr=>cases hr with
    | c hr=>cases hr
    | p hr =>
     rw [hr] at hx
     injection hx with hx
     exact .one (.p (b:=0) (by rw [← hx]; rfl))
  ·cases h
 | h b1 n1 =>
  simp only [lendD] at h
  split at h
  ·rename_i he
   obtain rfl:b1=b:=by simpa using he
   injection h with h
   subst h
   cases hr with
   | one hr=>cases hr with
    | c hr=>cases hr
    | h hr hn =>
     rw [hr] at hx
     injection hx with hx
     exact .one (.h (b:=0) (by rw [← hx]; rfl) hn)
    | h0 hr =>
     rw [hr] at hx
     injection hx with hx
     exact .one (.h0 (b:=0) (by rw [← hx]; rfl))
  ·cases h
 | m b1 z1 o1 n1 =>
  simp only [lendD] at h
  split at h
  ·rename_i he
   obtain rfl:b1=b:=by simpa using he
   injection h with h
   subst h
   cases hr with
   | one hr=>cases hr with
    | c hr=>cases hr
    | m hr hk hc ho =>
     rw [hr] at hx
     injection hx with hx
     exact .one (.m (b:=0) (by rw [← hx]; rfl) hk hc ho)
    | m0 hr =>
     rw [hr] at hx
     injection hx with hx
     exact .one (.m0 (b:=0) (by rw [← hx]; rfl))
  ·cases h
 | _ =>
  simp only [lendD] at h
  split at h
  ·rename_i he
   injection h with h
   subst h
   exact shutRep he hr
  ·cases h
theorem lendL_rep {ok:Nat→Prop} {x:Option (Nat×Nat)} (hx : ρ[b]? = some x):∀ {ds ds':List D} {vs:List Value},lendL b ds=some ds'→vs.length=ds.length→(∀ (j:Nat) (d:D) (v:Value),ds[j]? = some d→vs[j]? = some v→RepO w ok ρ d v)→vs.length=ds'.length∧∀ (j:Nat) (d:D) (v:Value),ds'[j]? = some d→vs[j]? = some v→RepO w ok [x] d v
 | [],ds',vs,h,hl,_=>by
  simp only [lendL,Option.some.injEq] at h
  subst h
  exact ⟨hl,fun j d v h=>by simp at h⟩
 | d::r,ds',vs,h,hl,hd=>by
  simp only [lendL] at h
  split at h
  ·rename_i d1 l1 h1 h2
   injection h with h
   subst h
   cases vs with
   | nil=>simp at hl
   | cons u us =>
    obtain ⟨q1,q2⟩:=lendL_rep hx (vs:=us) h2 (by simpa using hl) fun j d v a b=>hd (j+1) d v a b
    refine ⟨by simp [q1],fun j d v k1 k2 => ?_⟩
    cases j with
    | zero =>
     simp only [List.getElem?_cons_zero,Option.some.injEq] at k1 k2
     subst k1 k2
     exact lendD_rep hx h1 (hd 0 _ _ rfl rfl)
    | succ j=>exact q2 j d v (by simpa using k1) (by simpa using k2)
  ·cases h
theorem Inv.setObj (hI:Inv κ B ρ s N a w) {ob:Obj} (ho:ObjOk κ w ρ b ob):Inv κ B ρ (s.setMem b ob) N a w:=by
 refine ⟨hI.size,hI.dfr,hI.tab,by simp [St.setMem,hI.len],hI.own,hI.nd,fun k o hm => ?_,hI.gl,hI.big,hI.hκ,hI.fx,hI.fix⟩
 have hm':(s.mem.set b ob)[k]? = some o:=hm
 by_cases hkb:k=b
 ·subst hkb
  rcases Nat.lt_or_ge k s.mem.length with h|h
  ·rw [List.getElem?_set_self h] at hm'
   injection hm' with hm'
   subst hm'
   exact ho
  ·rw [List.getElem?_eq_none (by simpa using h)] at hm'; cases hm'
 ·rw [List.getElem?_set_ne (Ne.symm hkb)] at hm'
  exact hI.mem k o hm'
theorem callM_core (hI:Inv κ B ρ s N a w) (hc:callD P s [] o=some (f,ds0)) (hl:lendL b ds0=some ds) (hm:s.mem[b]? = some ob) (hsh:ob.shutB=true) (hG:s.gl=G) (hpm:PM P G f ds ob R) :
  ∃ vs:List Value,(execOp a.eval o).run P w = .ok (.enter f vs.toArray) w∧Calls P f vs.toArray w fun e w'=>∃ v d ob',e = .returned v∧R d ob'∧RepO w' (okW κ w' ρ) ρ d v∧Inv κ B ρ (s.setMem b ob') N a w'∧BelB B w w'∧Fr [b] ρ w ρ w':=by
 obtain ⟨vs,h1,h2,h3⟩:=run_call hI pt_nil hc
 have hbl:b < ρ.length:=by rw [hI.len]; exact (List.getElem?_eq_some_iff.1 hm).1
 obtain ⟨x,hx⟩:∃ x,ρ[b]? = some x:=⟨_,List.getElem?_eq_getElem hbl⟩
 obtain ⟨q1,q2⟩:=lendL_rep hx hl h2 h3
 refine ⟨vs,h1,(hpm (okW κ w ρ) w x vs (fun g hg=>hg.1.2) (fun y hy=>⟨(hI.own b y (by rw [hx,hy])).2,fun hk=>hk.2 b y (by rw [hx,hy]) rfl⟩) (by rw [← hG]; exact hI.gl) (ObjC.of (hI.mem b ob hm) hsh hx) q1 q2).mono ?_⟩
 rintro e w' ⟨v,d,ob',rfl,hr,hrep,hoc,k1,k2,k3,k4,k5⟩
 have hup:∀ g,((okW κ w ρ g∨w.heap.size≤g)∧g<w'.heap.size)→okW κ w' ρ g:=by
  rintro g ⟨h|h,hlt⟩
  ·exact ⟨⟨h.1.1,hlt⟩,h.2⟩
  ·exact ⟨⟨hI.hκ g (.inl (Nat.le_trans hI.big h)),hlt⟩,fun b x hx=>by have:=(hI.own b x hx).2; omega⟩
 have hok:=hoc.to (κ := κ) (ρ := ρ) (b:=b) hx hup
 have hfr:Fr [b] ρ w ρ w':=⟨fun k hk hne=>k5 k hk fun c hc=>hne b (List.mem_singleton.2 rfl) c (by rw [hx,hc]),fun b k c h _=>⟨c,h⟩⟩
 refine ⟨v,d,ob',rfl,hr,.one (.c (hrep.mono fun g hg=>⟨hup g hg,rfl⟩)),?_,?_,hfr⟩
 ·cases x with
  | some y =>
   have hbs:Beside y.1 w w':=⟨k1,k2,k3,k4,fun k hk hne=>k5 k hk fun c hc=>hne (by injection hc with hc; rw [hc])⟩
   exact inv_set hI (c:=y.2) hx hbs hok
  | none =>
   have hb:Below w.heap.size w w':=⟨k1,k2,k3,k4,fun k hk=>k5 k hk fun c hc=>by cases hc⟩
   exact (hI.later hb).setObj hok
 ·cases x with
  | some y =>
   have hbs:Beside y.1 w w':=⟨k1,k2,k3,k4,fun k hk hne=>k5 k hk fun c hc=>hne (by injection hc with hc; rw [hc])⟩
   exact BelB.of_beside hbs (hI.own b y hx).1 hI.big
  | none=>exact BelB.of_below ⟨k1,k2,k3,k4,fun k hk=>k5 k hk fun c hc=>by cases hc⟩ hI.big
theorem PL.callM (b:Nat) (hA:gpath ops s o=some []) (hd:dstB N [] o.dst=true) (hc:callD P s [] o=some (f,ds0)) (hl:lendL b ds0=some ds) (hm:s.mem[b]? = some ob) (hsh:ob.shutB=true) (hG:s.gl=G) (hpm:PM P G f ds ob R) (k:∀ d ob',R d ob'→PL P N ops rest Q ((s.setMem b ob').put o.dst [] d)):PL P N ops (o::rest) Q s:=fun κ B ρ a w0 w hI hb0=>by
 obtain ⟨vs,h1,h2⟩:=callM_core hI hc hl hm hsh hG hpm
 refine BigFrame.wpList_want (gpath_nil hI hA) fun K hK => ?_
 unfold Oper.wp
 rw [h1,Oper.upon_enter]
 refine h2.mono ?_
 rintro e w' ⟨v,d,ob',rfl,hr,hrep,hI',hb,_⟩
 exact hK _ _ (k d ob' hr κ B ρ _ w0 w' (inv_put hI' hd (fun _=>hrep) fun h=>absurd pt_nil h) (hb0.trans hb))
theorem PO1.callM (b:Nat) (ho:ops[i]? = some o) (hA:gpath ops s o=some []) (hd:dstB N [] o.dst=true) (hc:callD P s [] o=some (f,ds0)) (hl:lendL b ds0=some ds) (hm:s.mem[b]? = some ob) (hsh:ob.shutB=true) (hG:s.gl=G) (hT:hs.contains b=true) (hpm:PM P G f ds ob R) (k:∀ d ob',R d ob'→PO P N ops hs n (listed.setIfInBounds i true) Q ((s.setMem b ob').put o.dst [] d)):PO1 P N ops hs n listed Q s i:=fun κ B ρ a w0 w hI hb0=>by
 obtain ⟨vs,h1,h2⟩:=callM_core hI hc hl hm hsh hG hpm
 refine wpOp_of ho (BigFrame.wpList_want (gpath_nil hI hA) fun K hK => ?_)
 unfold Oper.wp
 rw [h1,Oper.upon_enter]
 refine h2.mono ?_
 rintro e w' ⟨v,d,ob',rfl,hr,hrep,hI',hb,hfr⟩
 have hTT:[b].all (fun b=>hs.contains b)=true:=by simpa using hT
 exact hK _ _ ⟨hfr.agree hTT hb.size,wpAnyH_monoS (hfr.agrees hTT hb.size) _ _ _ _ (k d ob' hr κ B ρ _ w0 w' (inv_put hI' hd (fun _=>hrep) fun h=>absurd pt_nil h) (hb0.trans hb))⟩
end
theorem PM.more {P:Program} {G:List (Nat×List D)} {f:FuncId} {ds:List D} {ob:Obj} {R:D→Obj→Prop} (h:PM P [] f ds ob R):PM P G f ds ob R:=fun κ w x vs h1 h2 _ h4 h5 h6=>h κ w x vs h1 h2 (fun x hx=>(nomatch hx)) h4 h5 h6
theorem PC.list {P:Program} {G:List (Nat×List D)} {f:FuncId} {ds:List D} {α : Type} [Inhabited α] {z:Nat} {e : α → List D} {l:List α} (h:PC P G f ds (fun d=>d=sl' z e l∨(d=D.v (.slice none 0 0)∧l=[]))):PC P G f ds (· = sl' z e l):=fun κ w vs h1 h2 h3 h4=>(h κ w vs h1 h2 h3 h4).mono (by
 rintro r w' ⟨v,d,rfl,k1,k2,k3⟩
 rcases k1 with rfl|⟨rfl,rfl⟩
 ·exact ⟨v,_,rfl,rfl,k2,k3⟩
 ·cases k2
  exact ⟨_,_,rfl,rfl,.s0 _ _ none 0 (fun _=>rfl) (Nat.zero_le _),k3⟩)
end Go.Proofs.Ytkhdnlkdcikdmaa.Dp
namespace Go.Proofs.Ytkhdnlkdcikdmaa.Dp
open Go.RowKit Go.Proofs.Ytkhdnlkdcikdmaa.Sm
set_option maxHeartbeats 1000000
set_option linter.unusedVariables false
def D.frz1 (b:Nat) (cs:List D):D→D
 | .p b1 z1 i1 o1=>if b1 == b then (if i1 == 0 then .q cs o1 else .any) else .p b1 z1 i1 o1
 | .h b1 n1=>if b1 == b then .any else .h b1 n1
 | .m b1 z1 o1 n1=>if b1 == b then .any else .m b1 z1 o1 n1
 | d=>d
def D.frz (b:Nat) (cs:List D):D→D
 | .r ds => .r (ds.map (D.frz1 b cs))
 | .k f ds => .k f (ds.map (D.frz1 b cs))
 | d=>d.frz1 b cs
def Obj.frz (b:Nat) (cs:List D):Obj→Obj
 | .var t ds => .var t (ds.map (D.frz1 b cs))
 | o=>o
def St.frz (b:Nat) (cs:List D) (s:St):St:={ s with tab:=s.tab.map fun e=>{ e with dv:=e.dv.frz b cs },mem:=(s.mem.map (Obj.frz b cs)).set b .dead }
section
variable {κ : Nat→Prop} {B:Base} {N:Nat} {ρ ρ':Own} {s s':St} {a:Act} {w:World} {d:D} {v:Value} {b g c:Nat} {cs:List D} {P:Program} {ops:Array Oper} {l:List Oper} {Q:Exit→St→Prop} {cd:Code} {hs:List Nat} {n:Nat} {listed:Array Bool}
theorem Rep1.frz (h:Rep1 w (okW κ w ρ) ρ d v) (hg : ρ[b]? = some (some (g,c))) (hm:∀ k,okW κ w ρ k→okW κ w ρ' k∧w.heap[k]? = w.heap[k]?) (ho:∀ (b':Nat) (x:Option (Nat×Nat)),b'≠b → ρ[b']? = some x → ρ'[b']? = some x) (hq:∀ z o,RepC w (okW κ w ρ') (.q cs o) (.pointer (some ⟨g,0*z+o,none⟩))):Rep1 w (okW κ w ρ') ρ' (d.frz1 b cs) v:=by
 cases h with
 | c h =>
  have e:d.frz1 b cs=d:=by cases h <;> rfl
  rw [e]
  exact .c (h.mono hm)
 | p h =>
  simp only [D.frz1]
  split
  ·rename_i hb
   obtain rfl:=(beq_iff_eq.1 hb)
   rw [hg] at h
   injection h with h
   injection h with h
   injection h with e1 e2
   subst e1
   split
   ·rename_i hi
    obtain rfl:=(beq_iff_eq.1 hi)
    exact .c (hq _ _)
   ·exact .c (.any _)
  ·rename_i hne; exact .p (ho _ _ (by simpa using hne) h)
 | h h hn =>
  simp only [D.frz1]
  split
  ·exact .c (.any _)
  ·rename_i hne; exact .h (ho _ _ (by simpa using hne) h) hn
 | h0 h =>
  simp only [D.frz1]
  split
  ·exact .c (.any _)
  ·rename_i hne; exact .h0 (ho _ _ (by simpa using hne) h)
 | m h hk hc hoo =>
  simp only [D.frz1]
  split
  ·exact .c (.any _)
  ·rename_i hne; exact .m (ho _ _ (by simpa using hne) h) hk hc hoo
 | m0 h =>
  simp only [D.frz1]
  split
  ·exact .c (.any _)
  ·rename_i hne; exact .m0 (ho _ _ (by simpa using hne) h)
theorem Inv.frz (hI:Inv κ B ρ s N a w) {t:TypeId} (hmb:s.mem[b]? = some (.var t cs)) (hsh:cs.all D.shut=true) (hfx:s.fx≤b):Inv κ B (ρ.set b none) (s.frz b cs) N a w:=by
 obtain ⟨g,vs,q1,q2,q3,q4⟩:=hI.mem b _ hmb
 have hbl:b < ρ.length:=(List.getElem?_eq_some_iff.1 q1).1
 have hset:∀ (b':Nat) (y:Option (Nat×Nat)),b'≠b → ρ[b']? = some y→(ρ.set b none)[b']? = some y:=fun b' y hne h=>by rw [List.getElem?_set_ne (Ne.symm hne)]; exact h
 have hback:∀ (b':Nat) (y:Nat×Nat),(ρ.set b none)[b']? = some (some y)→b'≠b ∧ ρ[b']? = some (some y):=by
  intro b' y h
  by_cases hb:b'=b
  ·subst hb
   rw [List.getElem?_set_self hbl] at h
   cases h
  ·rw [List.getElem?_set_ne (Ne.symm hb)] at h
   exact ⟨hb,h⟩
 have hm:∀ k,okW κ w ρ k→okW κ w (ρ.set b none) k∧w.heap[k]? = w.heap[k]? := fun k hk=>⟨⟨hk.1,fun b' y hy=>hk.2 b' y (hback b' y hy).2⟩,rfl⟩
 have hgo:okW κ w (ρ.set b none) g:=⟨⟨hI.hκ g (hI.own b _ q1).1,(hI.own b _ q1).2⟩,fun b' y hy e=>by
  obtain ⟨h1,h2⟩:=hback b' y hy
  exact h1 (hI.nd b' b _ _ h2 q1 e)⟩
 have hq:∀ z o,RepC w (okW κ w (ρ.set b none)) (.q cs o) (.pointer (some ⟨g,0*z+o,none⟩)):=by
  intro z o
  have:=RepC.q (w:=w) (ok:=okW κ w (ρ.set b none)) (cs:=cs) (o:=o) (b:=g) (off:=0*z) (fun j=>(vs[j]?).getD undef) hgo (fun j hj=>by
   rw [Nat.zero_mul,Nat.zero_add,cell_of_row w _ _ vs.toArray t (0,0) q2]
   have:j<vs.length:=by omega
   simp [this]) (fun j d hj=>by
   have hjl:j<vs.length:=by rw [q3]; exact (List.getElem?_eq_some_iff.1 hj).1
   have h5:=List.getElem?_eq_getElem hjl
   rw [h5]
   exact ((q4 j d _ hj h5).shut (List.all_eq_true.1 hsh d (List.mem_of_getElem? hj))).mono hm)
  exact this
 have one:∀ {d:D} {v:Value},Rep1 w (okW κ w ρ) ρ d v→Rep1 w (okW κ w (ρ.set b none)) (ρ.set b none) (d.frz1 b cs) v:=fun h=>h.frz q1 hm hset hq
 have lst:∀ {ds:List D} {us:List Value},(∀ (j:Nat) (d:D) (v:Value),ds[j]? = some d→us[j]? = some v→Rep1 w (okW κ w ρ) ρ d v)→∀ (j:Nat) (d:D) (v:Value),(ds.map (D.frz1 b cs))[j]? = some d→us[j]? = some v→Rep1 w (okW κ w (ρ.set b none)) (ρ.set b none) d v:=by
  intro ds us hd j d v h1 h2
  rw [List.getElem?_map] at h1
  obtain ⟨d',h3,rfl⟩:=Option.map_eq_some_iff.1 h1
  exact one (hd j d' v h3 h2)
 have ropen:∀ {d:D} {v:Value},RepO w (okW κ w ρ) ρ d v→RepO w (okW κ w (ρ.set b none)) (ρ.set b none) (d.frz b cs) v:=by
  intro d v h
  by_cases hr:∃ ds,d = .r ds
  ·obtain ⟨ds,rfl⟩:=hr
   obtain ⟨us,rfl,hl,hd⟩:=repO_r h
   exact .r (by simpa using hl) (lst hd)
  ·cases h with
   | one h =>
    have e:d.frz b cs=d.frz1 b cs:=by cases d <;> first|rfl|exact absurd ⟨_,rfl⟩ hr|exact absurd h Rep1.not_k
    rw [e]
    exact .one (one h)
   | r hl hd=>exact absurd ⟨_,rfl⟩ hr
   | k hl hd=>exact .k (by simpa using hl) (lst hd)
 refine ⟨hI.size,hI.dfr,fun e he => ?_,by simp [St.frz,hI.len],fun b' y hy=>hI.own b' y (hback b' y hy).2,fun b1 b2 y1 y2 h1 h2 e=>hI.nd b1 b2 y1 y2 (hback b1 y1 h1).2 (hback b2 y2 h2).2 e,fun b' o' hm' => ?_,fun y hy=>(hI.gl y hy).mono hm,hI.big,hI.hκ,hI.fx,fun i x hk h=>hset i x (by have:=hI.fx; omega) (hI.fix i x hk h)⟩
 ·obtain ⟨e0,h0,rfl⟩:=List.mem_map.1 he
  have hk:=hI.tab e0 h0
  exact ⟨fun hp=>ropen (hk.yes hp),hk.no,hk.lt⟩
 ·have hm2:((s.mem.map (Obj.frz b cs)).set b .dead)[b']? = some o':=hm'
  by_cases hb:b'=b
  ·subst hb
   rw [List.getElem?_set_self (by rw [List.length_map,← hI.len]; exact hbl)] at hm2
   injection hm2 with hm2
   subst hm2
   exact List.getElem?_set_self hbl
  ·rw [List.getElem?_set_ne (Ne.symm hb),List.getElem?_map] at hm2
   obtain ⟨o0,h3,rfl⟩:=Option.map_eq_some_iff.1 hm2
   have h4:=hI.mem b' o0 h3
   cases o0 with
   | dead=>exact hset _ _ hb h4
   | var t ds =>
    obtain ⟨g',us,r1,r2,r3,r4⟩:=h4
    exact ⟨g',us,by rw [List.length_map]; exact hset _ _ hb r1,r2,by simpa using r3,lst r4⟩
   | row t z n f =>
    rcases h4 with ⟨r1,r2⟩|⟨g',c,cur,r1,r2,r3,r4,r5,r6⟩
    ·exact .inl ⟨hset _ _ hb r1,r2⟩
    ·refine .inr ⟨g',c,cur,hset _ _ hb r1,r2,r3,r4,r5,fun i hi=>⟨(r6 i hi).1,(r6 i hi).2.1,fun j d hj => ?_⟩⟩
     obtain ⟨v,k1,k2⟩:=(r6 i hi).2.2 j d hj
     exact ⟨v,k1,k2.mono hm⟩
theorem PL.frz (b:Nat) {t:TypeId} (hmb:s.mem[b]? = some (.var t cs)) (hsh:cs.all D.shut=true) (hfx:s.fx≤b) (he:s.frz b cs=s') (h:PL P N ops l Q s'):PL P N ops l Q s:=fun κ B ρ a w0 w hI hb=>by
 subst he
 exact h κ B _ a w0 w (hI.frz hmb hsh hfx) hb
theorem PW.frz (b:Nat) {t:TypeId} (hmb:s.mem[b]? = some (.var t cs)) (hsh:cs.all D.shut=true) (hfx:s.fx≤b) (he:s.frz b cs=s') (h:PW P N cd Q s'):PW P N cd Q s:=fun κ B ρ a w hI=>by
 subst he
 exact h κ B _ a w (hI.frz hmb hsh hfx)
end
end Go.Proofs.Ytkhdnlkdcikdmaa.Dp
namespace Go.Proofs.Ytkhdnlkdcikdmaa.Dp
open Go.RowKit Go.Proofs.Ytkhdnlkdcikdmaa.Sm
set_option maxHeartbeats 1000000
set_option linter.unusedVariables false
set_option linter.unusedSimpArgs false
inductive Sh where
 | int (k:IntKind)
 | bool
 | sl (e:List Sh)
inductive Fit:Sh→D→Prop where
 | int {k:IntKind} {n:Int} (h:(Lit.int k n).wf=true):Fit (.int k) (.v (.int k n))
 | bool (b:Bool):Fit .bool (.v (.bool b))
 | sl {e:List Sh} {n:Nat} {f:Nat→List D} (hn:n≤maxLen) (hl:∀ i,i<n→(f i).length=e.length) (h:∀ (i j:Nat) (s:Sh) (d:D),i<n→e[j]? = some s→(f i)[j]? = some d→Fit s d):Fit (.sl e) (.s n e.length f)
structure Fits (l:List Sh) (ds:List D):Prop where
 len:ds.length=l.length
 fit:∀ (j:Nat) (s:Sh) (d:D),l[j]? = some s→ds[j]? = some d→Fit s d
theorem Fit.one {s:Sh} {d:D} (h:Fit s d):d.one=true:=by cases h <;> rfl
def shFields (P:Program) (g:TypeId→Option (List Sh)):List Field→Nat→Option (List Sh)
 | [],_=>some []
 | f::r,o=>if f.offset == o then match g f.type with
   | some l=>if l.length == P.cellsOf f.type then match shFields P g r (o+l.length) with
     | some m=>some (l++m)
     | none=>none
    else none
   | none=>none
  else none
def shReps (l:List Sh):Nat→List Sh
 | 0=>[]
 | n+1=>l++shReps l n
def shOf (P:Program):Nat→TypeId→Option (List Sh)
 | 0,_=>none
 | k+1,t=>match P.underlying t with
  | some .bool=>some [.bool]
  | some (.int q)=>some [.int q]
  | some (.slice e)=>match shOf P k e with
   | some l=>if l.length == P.cellsOf e&&decide (0<l.length) then some [.sl l] else none
   | none=>none
  | some (.struct fs)=>match shFields P (shOf P k) fs.toList 0 with
   | some l=>if l.length == P.cellsOf t then some l else none
   | none=>none
  | some (.array n e)=>match shOf P k e with
   | some l=>if l.length == P.cellsOf e&&(shReps l n).length == P.cellsOf t then some (shReps l n) else none
   | none=>none
  | _=>none
structure Came (w:World) (l:List Sh) (cs:List Value) (ds:List D):Prop where
 len:cs.length=ds.length
 rep:∀ (j:Nat) (d:D) (v:Value),ds[j]? = some d→cs[j]? = some v→RepC w (fun g=>g<w.heap.size) d v
 fits:Fits l ds
theorem Came.nil (w:World):Came w [] [] []:=⟨rfl,fun j d v h=>by simp at h,rfl,fun j s d h=>by simp at h⟩
theorem Came.app {w:World} {l m:List Sh} {cs cs':List Value} {ds ds':List D} (h:Came w l cs ds) (h':Came w m cs' ds'):Came w (l++m) (cs++cs') (ds++ds'):=by
 have hl:=h.fits.len
 refine ⟨by simp [h.len,h'.len],fun j d v h1 h2 => ?_,by simp [hl,h'.fits.len],fun j s d h1 h2 => ?_⟩
 ·rcases Nat.lt_or_ge j ds.length with hj|hj
  ·rw [List.getElem?_append_left hj] at h1
   rw [List.getElem?_append_left (by rw [h.len]; exact hj)] at h2
   exact h.rep j d v h1 h2
  ·rw [List.getElem?_append_right hj] at h1
   rw [List.getElem?_append_right (by rw [h.len]; exact hj),h.len] at h2
   exact h'.rep _ d v h1 h2
 ·rcases Nat.lt_or_ge j ds.length with hj|hj
  ·rw [List.getElem?_append_left hj] at h2
   rw [List.getElem?_append_left oM] at h1
   exact h.fits.fit j s d h1 h2
  ·rw [List.getElem?_append_right hj] at h2
   rw [List.getElem?_append_right oM,← hl] at h1
   exact h'.fits.fit _ s d h1 h2
section
variable {H:Type} {enc:TypeId×Value→H} {P:Program} {w:World}
theorem fields_came {g:TypeId→Option (List Sh)} {n:Nat} {cs:List Value} (hg:∀ (t:TypeId) (l:List Sh) (cs:List Value) (x:DataW H×List MemPlace),g t=some l→DataW.trod enc P w 0 (fun _=>true) true n t cs=some x→∃ ds,Came w l cs ds) :
  ∀ (fs:List Field) (o:Nat) (l:List Sh),shFields P g fs o=some l→o+l.length≤cs.length→(∀ f ∈ fs,∃ x,DataW.trod enc P w 0 (fun _=>true) true n f.type ((cs.drop f.offset).take (P.cellsOf f.type))=some x)→∃ ds,Came w l ((cs.drop o).take l.length) ds
 | [],o,l,h,hl,_=>by
  simp only [shFields,Option.some.injEq] at h
  subst h
  exact ⟨[],by simpa using Came.nil w⟩
 | f::r,o,l,h,hl,hx=>by
  simp only [shFields] at h
  split at h
  ·rename_i ho
   have ho':f.offset=o:=by simpa using ho
   split at h
   ·rename_i lf hlf
    split at h
    ·rename_i hsz
     have hsz':lf.length=P.cellsOf f.type:=by simpa using hsz
     split at h
     ·rename_i m hm
      injection h with h
      subst h
      obtain ⟨x,hxx⟩:=hx f (List.mem_cons_self ..)
      rw [ho',← hsz'] at hxx
      obtain ⟨ds,hd⟩:=hg _ _ _ _ hlf hxx
      rw [List.length_append] at hl
      obtain ⟨ds',hd'⟩:=fields_came hg r (o+lf.length) m hm oM fun f hf=>hx f (List.mem_cons_of_mem _ hf)
      refine ⟨ds++ds',?_⟩
      have e:(cs.drop o).take (lf++m).length=(cs.drop o).take lf.length++(cs.drop (o+lf.length)).take m.length:=by
       rw [List.length_append,List.take_add,List.drop_drop]
      rw [e]
      exact hd.app hd'
     ·cases h
    ·cases h
   ·cases h
  ·cases h
theorem reps_came {cs:List Value} {l:List Sh}:∀ (k o:Nat),o+(shReps l k).length≤cs.length→(∀ i,i<k→∃ ds,Came w l ((cs.drop (o+i*l.length)).take l.length) ds)→∃ ds,Came w (shReps l k) ((cs.drop o).take (shReps l k).length) ds
 | 0,o,_,_=>⟨[],by simpa [shReps] using Came.nil w⟩
 | k+1,o,hl,h=>by
  simp only [shReps,List.length_append] at hl
  obtain ⟨ds,hd⟩:=h 0 (Nat.zero_lt_succ _)
  obtain ⟨ds',hd'⟩:=reps_came (cs:=cs) (l:=l) k (o+l.length) oM fun i hi=>by
   obtain ⟨d,hd⟩:=h (i+1) oM
   refine ⟨d,?_⟩
   rw [show o+l.length+i*l.length=o+(i+1)*l.length by rw [Nat.add_mul,Nat.one_mul]; omega]
   exact hd
  refine ⟨ds++ds',?_⟩
  have e:(cs.drop o).take (shReps l (k+1)).length=(cs.drop o).take l.length++(cs.drop (o+l.length)).take (shReps l k).length:=by
   rw [shReps,List.length_append,List.take_add,List.drop_drop]
  rw [e]
  rw [Nat.zero_mul,Nat.add_zero] at hd
  exact hd.app hd'
theorem cells_get {a:Addr} {z:Nat} {cs:List Value} (h:w.cells? 0 a z=some cs):cs.length=z∧∀ (j:Nat),j<z→w.cell? (a.add j)=cs[j]? := by
 unfold World.cells? at h
 rw [if_pos (Nat.zero_le _)] at h
 exact ⟨by simpa using mapM_some_length h,fun j hj=>mapM_some_get h j j (by simp [hj])⟩
theorem trod_came:∀ (k:Nat) (t:TypeId) (l:List Sh) (fuel:Nat) (cs:List Value) (x:DataW H×List MemPlace),shOf P k t=some l→DataW.trod enc P w 0 (fun _=>true) true fuel t cs=some x→∃ ds,Came w l cs ds
 | 0,_,_,_,_,_,h,_=>by cases h
 | k+1,t,l,fuel,cs,x,h,hx=>by
  unfold shOf at h
  split at h
  ·rename_i hu
   injection h with h
   subst h
   obtain ⟨b,rfl,_⟩:=DataW.trod_bool hu hx
   refine ⟨[.v (.bool b)],rfl,fun j d v h1 h2 => ?_,rfl,fun j s d h1 h2 => ?_⟩
   ·cases j with
    | zero=>simp at h1 h2; subst h1 h2; exact .v _
    | succ j=>simp at h1
   ·cases j with
    | zero=>simp at h1 h2; subst h1 h2; exact .bool b
    | succ j=>simp at h1
  ·rename_i q hu
   injection h with h
   subst h
   obtain ⟨n,rfl,_,hw⟩:=DataW.trod_int hu hx
   refine ⟨[.v (.int q n)],rfl,fun j d v h1 h2 => ?_,rfl,fun j s d h1 h2 => ?_⟩
   ·cases j with
    | zero=>simp at h1 h2; subst h1 h2; exact .v _
    | succ j=>simp at h1
   ·cases j with
    | zero=>simp at h1 h2; subst h1 h2; exact .int hw
    | succ j=>simp at h1
  ·rename_i e hu
   split at h
   ·rename_i le he
    split at h
    ·rename_i hc
     simp only [Bool.and_eq_true,beq_iff_eq,decide_eq_true_eq] at hc
     obtain ⟨hc,hc0⟩:=hc
     injection h with h
     subst h
     have fin:∀ (d:D) (v:Value),RepC w (fun g=>g<w.heap.size) d v→Fit (.sl le) d→cs=[v]→∃ ds,Came w [.sl le] cs ds:=by
      rintro d v h1 h2 rfl
      refine ⟨[d],rfl,fun j d' v' q1 q2 => ?_,rfl,fun j s d' q1 q2 => ?_⟩
      ·cases j with
       | zero=>simp at q1 q2; subst q1 q2; exact h1
       | succ j=>simp at q1
      ·cases j with
       | zero=>simp at q1 q2; subst q1 q2; exact h2
       | succ j=>simp at q1
     rcases Deep.open_slice hu hx with ⟨hcs,_⟩|⟨a,len,cap,m,n,Dd,Pl,hcs,_,hlc,hcm,hm,_,hel⟩
     ·exact fin (.s 0 le.length fun _=>[]) _ (.s0 _ _ none 0 (fun _=>rfl) (Nat.zero_le _)) (.sl (Nat.zero_le _) (fun i hi=>absurd hi (Nat.not_lt_zero _)) fun i j s d hi=>absurd hi (Nat.not_lt_zero _)) hcs
     ·have hmc:m=cap:=by simpa using hm
      subst hmc
      have each:∀ i,i<len→∃ y:List Value×List D,w.cells? 0 (a.add (i*le.length)) le.length=some y.1∧Came w le y.1 y.2:=by
       intro i hi
       obtain ⟨cs',q1,q2⟩:=hel i oM
       rw [← hc] at q1
       obtain ⟨ds,q3⟩:=trod_came k e le n cs' _ he q2
       exact ⟨(cs',ds),q1,q3⟩
      obtain ⟨y,hy⟩:=Deep.choose_lt each
      rcases Nat.eq_zero_or_pos len with h0|h0
      ·subst h0
       exact fin (.s 0 le.length fun _=>[]) _ (.s0 _ _ (some a) m (fun h=>by cases h) hcm) (.sl (Nat.zero_le _) (fun i hi=>absurd hi (Nat.not_lt_zero _)) fun i j s d hi=>absurd hi (Nat.not_lt_zero _)) hcs
      ·obtain ⟨b,off,spot⟩:=a
       have hc00:=(cells_get (hy 0 h0).1).2 0 hc0
       have hl0:=(cells_get (hy 0 h0).1).1
       have hsome:∃ v,w.cell? (((⟨b,off,spot⟩:Addr).add (0*le.length)).add 0)=some v:=by
        rw [hc00]; exact ⟨_,List.getElem?_eq_getElem oM⟩
       obtain ⟨v0,hv0⟩:=hsome
       have hspot:spot=none:=by simpa [Addr.add] using World.cell?_spot hv0
       subst hspot
       have hb:b<w.heap.size:=by
        have:=block_lt_of_cell hv0
        simpa [Addr.add] using this
       refine fin (.s len le.length fun i=>(y i).2) _ (.s (fun i j=>((y i).1[j]?).getD undef) hb hlc hcm (fun i hi => ?_) (fun i j hi hj => ?_) (fun i j d hi hj => ?_)) (.sl oM (fun i hi=>(hy i hi).2.fits.len) fun i j s d hi h1 h2=>(hy i hi).2.fits.fit j s d h1 h2) hcs
       ·refine ⟨(hy i hi).2.fits.len,?_⟩
        rw [List.all_eq_true]
        intro d hd
        obtain ⟨j,hj,rfl⟩:=List.getElem_of_mem hd
        have hjl:j<le.length:=by rw [← (hy i hi).2.fits.len]; exact hj
        exact ((hy i hi).2.fits.fit j _ _ (List.getElem?_eq_getElem hjl) (List.getElem?_eq_getElem hj)).one
       ·obtain ⟨q1,q2⟩:=cells_get (hy i hi).1
        have:=q2 j hj
        rw [Addr.add_mid,Addr.add_mid,Nat.add_assoc] at this
        rw [this,List.getElem?_eq_getElem oM]
        rfl
       ·have hjl:j<(y i).1.length:=by rw [(hy i hi).2.len]; exact (List.getElem?_eq_some_iff.1 hj).1
        rw [List.getElem?_eq_getElem hjl]
        exact (hy i hi).2.rep j d _ hj (List.getElem?_eq_getElem hjl)
    ·cases h
   ·cases h
  ·rename_i fs hu
   split at h
   ·rename_i l' hl'
    split at h
    ·rename_i hc
     have hc':l'.length=P.cellsOf t:=by simpa using hc
     injection h with h
     subst h
     obtain ⟨xs,n,_,_,hlen,hxs,hg⟩:=DataW.trod_struct hu hx
     obtain ⟨ds,hd⟩:=fields_came (n:=n) (cs:=cs) (fun t l cs x q1 q2=>trod_came k t l n cs x q1 q2) fs.toList 0 l' hl' oM (by
      intro f hf
      obtain ⟨i,hi,rfl⟩:=List.getElem_of_mem hf
      have hi':i<fs.size:=by simpa using hi
      have h1:=hg i fs[i] (Array.getElem?_eq_getElem hi')
      rw [List.getElem?_eq_getElem oM] at h1
      exact ⟨_,by simpa using h1⟩)
     refine ⟨ds,?_⟩
     rw [List.drop_zero,List.take_of_length_le oM] at hd
     exact hd
    ·cases h
   ·cases h
  ·rename_i n e hu
   split at h
   ·rename_i l' hl'
    split at h
    ·rename_i hc
     simp only [Bool.and_eq_true,beq_iff_eq] at hc
     obtain ⟨hc1,hc2⟩:=hc
     injection h with h
     subst h
     obtain ⟨xs,m,_,_,hlen,hxs,hg⟩:=DataW.trod_array hu hx
     obtain ⟨ds,hd⟩:=reps_came (w:=w) (cs:=cs) (l:=l') n 0 oM (by
      intro i hi
      have h1:=hg i hi
      rw [List.getElem?_eq_getElem oM] at h1
      rw [Nat.zero_add,hc1]
      exact trod_came k e l' m _ _ hl' h1)
     refine ⟨ds,?_⟩
     rw [List.drop_zero,List.take_of_length_le oM] at hd
     exact hd
    ·cases h
   ·cases h
  ·cases h
end
end Go.Proofs.Ytkhdnlkdcikdmaa.Dp
