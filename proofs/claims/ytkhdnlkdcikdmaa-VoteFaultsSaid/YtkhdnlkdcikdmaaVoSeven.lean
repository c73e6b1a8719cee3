/- Chapter 14's law VoteFaults. -/
import Derived.Test.YtkhdnlkdcikdmaaVoFive
namespace Go.Proofs.Ytkhdnlkdcikdmaa.Pl
open Go.RowKit Go.Proofs.Ytkhdnlkdcikdmaa.Sm Go.Proofs.Ytkhdnlkdcikdmaa.Dp
open Go.Proofs.Ytkhdnlkdcikdmaa.Fr (bare frD frC)
set_option maxHeartbeats 4000000
set_option maxRecDepth 100000
set_option linter.unusedVariables false
set_option linter.unusedSimpArgs false
def encM (h:Heard×Bool):List D:=I h.1.slot::(frC h.1.frame (sl' 1 (fun x=>[I x]) h.1.frame.ages) (match h.2 with|true=>bytesD h.1.frame.body|false=>D.v (.slice none 0 0))++[I h.1.at_])
theorem mix_coarse (l:List (Heard×Bool)) (hb:∀ x ∈ l,x.2=false→x.1.frame.body=[]) {w:World} {ok:Nat→Prop} {v:Value} (h:RepC w ok (sl' 16 encM l) v):RepC w ok (sl' 16 Heard.d (l.map Prod.fst)) v:=by
 unfold sl' at h ⊢
 rw [List.length_map]
 refine RepC.seqw h fun i hi => ?_
 have e:(l.map Prod.fst).getD i default=(l.getD i default).1:=by simp [List.getD_eq_getElem?_getD,hi]
 have hm:=hb _ (getD_mem hi)
 rw [e]
 generalize l.getD i default=x at hm
 obtain ⟨x,b⟩:=x
 cases b with
 | true=>exact ⟨rfl,rfl,fun j d' hj=>⟨d',hj,fun _ _ _ h=>h⟩⟩
 | false =>
  refine ⟨rfl,rfl,fun j d' hj => ?_⟩
  have hbody:=hm rfl
  match j,hj with
  | 0,hj|1,hj|2,hj|3,hj|4,hj|5,hj|6,hj|7,hj|8,hj|9,hj|10,hj|11,hj|12,hj|13,hj|15,hj=>cases hj; exact ⟨_,rfl,fun _ _ _ h=>h⟩
  | 14,hj =>
   cases hj
   refine ⟨_,rfl,fun _ _ _ h => ?_⟩
   dsimp only at hbody ⊢
   rw [hbody]
   exact h.nil_s
  | j+16,hj=>exact absurd hj (by simp [Heard.d,frD,frC])
def sayV (cycle:Int) (ages:List Int) (i:Nat):Heard:=⟨(i:Int),⟨2,0,(i:Int).tmod 12,0,0,0,false,cycle,0,ages,0,0,0,[]⟩,0⟩
def mixV (wrong:List Heard) (cycle:Int) (ages:List Int) (i:Nat):List (Heard×Bool):=wrong.map (fun h=>(h,true))++(List.range i).map fun k=>(sayV cycle ages k,false)
theorem mixV_one (wrong:List Heard) (cycle:Int) (ages:List Int) (i:Nat):mixV wrong cycle ages (i+1)=mixV wrong cycle ages i++[(sayV cycle ages i,false)]:=by unfold mixV; rw [List.range_succ,List.map_append,List.append_assoc]; rfl
theorem mixV_len (wrong:List Heard) (cycle:Int) (ages:List Int) (i:Nat):(mixV wrong cycle ages i).length=wrong.length+i:=by unfold mixV; simp
theorem mixV_fst (wrong:List Heard) (cycle:Int) (ages:List Int) (i:Nat):(mixV wrong cycle ages i).map Prod.fst=wrong++(List.range i).map (sayV cycle ages):=by
 unfold mixV
 rw [List.map_append,List.map_map,List.map_map]
 congr 1
 exact List.map_id _
theorem mixV_body {wrong:List Heard} {cycle:Int} {ages:List Int} {i:Nat}:∀ x ∈ mixV wrong cycle ages i,x.2=false→x.1.frame.body=[]:=by
 intro x hx h2
 rcases List.mem_append.1 hx with h|h
 ·obtain ⟨y,_,rfl⟩:=List.mem_map.1 h
  cases h2
 ·obtain ⟨y,_,rfl⟩:=List.mem_map.1 h
  rfl
theorem mixV_fine {wrong:List Heard} {cycle:Int} {ages:List Int} {i:Nat} (hF:Fine wrong) (ha:ages.length<1000000):Fine ((mixV wrong cycle ages i).map Prod.fst):=by
 rw [mixV_fst]
 intro x hx
 rcases List.mem_append.1 hx with h|h
 ·exact hF x h
 ·obtain ⟨y,_,rfl⟩:=List.mem_map.1 h
  exact ⟨ha,by show (0:Nat)<1000000; omega⟩
theorem faults_win {wrong:List Heard} {cycle:Int} {ages:List Int} {f k:Nat} (hw:wrong.length≤f) (hk:2*f+1≤k):k≤(backL (wrong++(List.range k).map (sayV cycle ages))).length∧∀ h ∈ backL (wrong++(List.range k).map (sayV cycle ages)),cOf h=⟨cycle,ages⟩:=by
 have e1:syncs (wrong++(List.range k).map (sayV cycle ages))=syncs wrong++(List.range k).map (sayV cycle ages):=by
  unfold syncs
  rw [List.filter_append]
  congr 1
  refine List.filter_eq_self.2 fun x hx => ?_
  obtain ⟨y,_,rfl⟩:=List.mem_map.1 hx
  rfl
 have e2:(syncs (wrong++(List.range k).map (sayV cycle ages))).map cOf=(syncs wrong).map cOf++List.replicate k ⟨cycle,ages⟩:=by
  rw [e1,List.map_append,List.map_map]
  congr 1
  refine List.eq_replicate_iff.2 ⟨by simp,fun x hx => ?_⟩
  obtain ⟨y,_,rfl⟩:=List.mem_map.1 hx
  rfl
 have hA:((syncs wrong).map cOf).length≤f:=by
  rw [List.length_map]
  exact Nat.le_trans (List.length_filter_le _ _) hw
 generalize hS:syncs (wrong++(List.range k).map (sayV cycle ages))=ss at e1 e2
 generalize hB:(syncs wrong).map cOf=A at e2 hA
 have hlen:(ss.map cOf).length=A.length+k:=by rw [e2]; simp
 have hc:∀ d,(ss.map cOf).count d=A.count d+if (⟨cycle,ages⟩:Content)=d then k else 0:=fun d=>by
  rw [e2,List.count_append,List.count_replicate]
  simp
 obtain ⟨b,hb,e,hm⟩:=win_spec (l:=ss.map cOf) oM
 have hat:(ss.map cOf).getD A.length default=⟨cycle,ages⟩:=by
  rw [e2,List.getD_eq_getElem?_getD,List.getElem?_append_right (Nat.le_refl _),Nat.sub_self,List.getElem?_replicate,if_pos oM]
  rfl
 have h1:=hm A.length oM
 rw [hat] at h1
 have h2:(ss.map cOf).getD b default=⟨cycle,ages⟩:=by
  apply Classical.byContradiction
  intro hne
  have h3:=hc ((ss.map cOf).getD b default)
  rw [if_neg (fun h=>hne h.symm)] at h3
  have h4:=hc ⟨cycle,ages⟩
  rw [if_pos rfl] at h4
  have h5:A.count ((ss.map cOf).getD b default)≤A.length:=List.count_le_length
  unfold cntI at h1
  omega
 have hbk:backL (wrong++(List.range k).map (sayV cycle ages))=ss.filter fun h=>sameC (cOf h) ⟨cycle,ages⟩:=by
  unfold backL backs
  rw [hS,e]
  dsimp only
  rw [Int.toNat_natCast,h2]
 rw [hbk]
 constructor
 ·rw [← List.countP_eq_length_filter]
  have h6:=hc ⟨cycle,ages⟩
  rw [if_pos rfl,List.count,List.countP_map] at h6
  have h7:ss.countP (fun h=>sameC (cOf h) ⟨cycle,ages⟩)=ss.countP ((fun x=>x == (⟨cycle,ages⟩:Content))∘cOf):=by
   congr 1
  rw [h7,h6]
  omega
 ·intro h hh
  exact sameC_iff.1 (List.mem_filter.1 hh).2
theorem faults_fst {wrong:List Heard} {cycle:Int} {ages:List Int} {f k:Nat} (hw:wrong.length≤f) (hk:2*f+1≤k):k≤(backL ((mixV wrong cycle ages k).map Prod.fst)).length∧∀ i,i<(backL ((mixV wrong cycle ages k).map Prod.fst)).length→((backL ((mixV wrong cycle ages k).map Prod.fst)).getD i default).frame.cycle=cycle∧((backL ((mixV wrong cycle ages k).map Prod.fst)).getD i default).frame.ages=ages:=by
 rw [mixV_fst]
 have h:=faults_win (cycle:=cycle) (ages:=ages) hw hk
 refine ⟨h.1,fun i hi => ?_⟩
 have h2:=h.2 _ (getD_mem hi)
 unfold cOf at h2
 rw [Content.mk.injEq] at h2
 exact h2
theorem faults_enough {n:Nat} {f k:Nat} (hf:f≤3) (hk:2*f+1≤k) (hn:k≤n):enoughB (n:Int) (f:Int)=true:=by
 unfold enoughB
 exact decide_eq_true oM
theorem mixV_zero {wrong:List Heard} {cycle:Int} {ages:List Int} {j:Nat} (h:j<wrong.length):(mixV wrong cycle ages 0).getD j default=(wrong.getD j default,true):=by
 unfold mixV
 rw [List.range_zero,List.map_nil,List.append_nil,map_getD h]
theorem drumlinelaw14_VoteFaults_pc (cycle:Int) (ages:List Int) (hla:ages.length≤maxLen) (u:Int) (wrong:List Heard) (hl:wrong.length≤maxLen) (q:Int) (f r k:Nat) (hf:(IntKind.i64.wrap q).tmod 4=(f:Int)) (hf3:f≤3) (hr:(IntKind.i64.wrap u).tmod 8=(r:Int)) (hr7:r≤7) (hk:k=2*f+1+r):PC Try.prog [] 6 [I cycle,sl' 1 (fun x=>[I x]) ages,D.v (.int .u8 u),sl' 16 Heard.d wrong,D.v (.int .u8 q)] (· = D.v (.bool true)):=by
 refine po 102 Try.func6 rfl ?_
 have wk:IntKind.i64.wrap (IntKind.i64.wrap (IntKind.i64.wrap (2*(f:Int))+1)+(r:Int))=(k:Int):=by rw [Ev.wrap_i64 (x:=2*(f:Int)) oM oM,Ev.wrap_i64 (x:=2*(f:Int)+1) oM oM,Ev.wrap_i64 oM oM,hk]; omega
 refine PW.a [0,1,2,3,4] 0 (PW.sg (PL.row 4 [0,1,2,3,11] 0 (s':={ tab:=[⟨0,[],I cycle⟩,⟨1,[],sl' 1 (fun x=>[I x]) ages⟩,⟨2,[],D.v (.int .u8 u)⟩,⟨3,[],sl' 16 Heard.d wrong⟩,⟨11,[],I ((IntKind.i64.wrap q).tmod 4)⟩],mem:=[] }) (p:=True) kR kR kR kR kR trivial (PL.eq (s':={ tab:=[⟨0,[],I cycle⟩,⟨1,[],sl' 1 (fun x=>[I x]) ages⟩,⟨2,[],D.v (.int .u8 u)⟩,⟨3,[],sl' 16 Heard.d wrong⟩,⟨11,[],I (f:Int)⟩],mem:=[] }) (by rw [hf]) (PL.nl (PW.seq (PW.sg (PL.gc (A:=[]) (fun _=>drumlinelaw14_alive_pc) ?_)))))))
 refine PL.a 3 [0,1,2,3,11,22,23] 0 (PL.gc (A:=[(22,false)]) (fun _=>drumlinelaw14_few_pc wrong (by assumption)) (PL.n 13 [0,1,2,3,11,37] 0 (PW.cd (((false||(!(fewB wrong)))||(decide ((wrong.length:Int)>(f:Int))))||(decide ((ages.length:Int)>(20:Int)))) ?_ ?_))) <;> intro hz0 <;> try simp only [boolS,Bool.false_or] at hz0
 ·try have hsm:=few_of hz0.1.1
  refine PW.sg (PL.gc (A:=[]) (fun _=>drumlinelaw14_alive_pc) (PL.n 1 [10] 0 (PW.ret (rq (D.v (.bool true)) ?_))))
  rfl
 ·try have hsm:=few_of hz0.1.1
  refine PW.k (PW.sg (PL.row 8 [0,1,3,11,12] 0 (s':={ tab:=[⟨0,[],I cycle⟩,⟨1,[],sl' 1 (fun x=>[I x]) ages⟩,⟨3,[],sl' 16 Heard.d wrong⟩,⟨11,[],I (f:Int)⟩,⟨12,[],I (IntKind.i64.wrap ((IntKind.i64.wrap ((IntKind.i64.wrap (2*(f:Int)))+1))+((IntKind.i64.wrap u).tmod 8)))⟩],mem:=[] }) (p:=True) kR kR kR kR kR trivial (PL.eq (s':={ tab:=[⟨0,[],I cycle⟩,⟨1,[],sl' 1 (fun x=>[I x]) ages⟩,⟨3,[],sl' 16 Heard.d wrong⟩,⟨11,[],I (f:Int)⟩,⟨12,[],I (k:Int)⟩],mem:=[] }) (by rw [hr,wk]) (PL.nl (PW.a [0,1,3,11,12,13] 0 (PW.sg (PL.rw 4 [0,1,11,12,13] 1 (p:=(True∧(0+wrong.length)*160≤140737488355328∧0+wrong.length≤9223372036854775807)) nD ?_)))))))
  refine PL.rm 0 (t:=42) (z:=16) (n:=(0+wrong.length)) (fun j=>if j<0 then (fun _=>[]) j else (fun i=>Heard.d (wrong.getD i default)) (j-0)) (fun j=>encM ((mixV wrong cycle ages 0).getD j default)) (fun j hj=>by (try dsimp only); rw [if_neg (Nat.not_lt_zero j),mixV_zero oM]; rfl) (PL.nl (PW.q [0,1,11,12,13,14] 1 (PW.block (PW.lp (α := Nat×Nat×List (Heard×Bool)) (fun (i,m,xs)=>{ tab:=[⟨0,[],I cycle⟩,⟨1,[],sl' 1 (fun x=>[I x]) ages⟩,⟨11,[],I (f:Int)⟩,⟨12,[],I (k:Int)⟩,⟨13,[],D.h 0 m⟩,⟨14,[],I (i:Int)⟩],mem:=[Obj.row 42 16 m (fun j=>encM (xs.getD j default))] }) (fun (i,m,xs)=>i≤k∧xs=mixV wrong cycle ages i∧m=wrong.length+i) (fun (i,m,xs)=>k-i) [0,1,11,12,13,14] 1 (0,(0+wrong.length),(mixV wrong cycle ages 0)) ?_ ?_))))
  ·dsimp only
   exact ⟨Nat.zero_le _,rfl,by omega⟩
  rintro ⟨i,m,xs⟩ hinv
  dsimp only at hinv
  have hxl:xs.length=m:=by rw [hinv.2.1,mixV_len]; omega
  show PW _ _ _ _ _
  refine PW.q [0,1,11,12,13,14,51] 1 (PW.cd (decide ((i:Int)<(k:Int))) ?_ ?_) <;> intro hz1 <;> try simp only [boolS,Bool.false_or] at hz1
  ·try have hsm:=few_of hz1.1.1
   refine PW.k (PW.seq (PW.block (PW.region (PL.a 6 [0,1,11,12,14,54,55,57,58,59] 1 (PL.sl [0,1,11,12,14,54,55,57,58,59] 1 (PL.build (cs:=[I 2,I 0,I ((i:Int).tmod 12),I 0,I 0,I 0,D.v (.bool false),I cycle,I 0,sl' 1 (fun x=>[I x]) ages,I 0,I 0,I 0,D.v (.slice none 0 0)]) rfl kR kR kR (PL.sl [0,1,11,12,14,54,55,60] 1 ?_)))))))
   refine PL.build (cs:=[I (i:Int),I 2,I 0,I ((i:Int).tmod 12),I 0,I 0,I 0,D.v (.bool false),I cycle,I 0,sl' 1 (fun x=>[I x]) ages,I 0,I 0,I 0,D.v (.slice none 0 0),I 0]) rfl kR kR kR (PL.rw 2 [0,1,11,12,14,63] 2 (p:=((m=m∧1≤1)∧(m+1)*160≤140737488355328∧m+1≤9223372036854775807)) oM (PL.rm 0 (t:=42) (z:=16) (n:=(m+1)) (fun j=>if j<m then (fun j=>encM (xs.getD j default)) j else (fun k=>([[I (i:Int),I 2,I 0,I ((i:Int).tmod 12),I 0,I 0,I 0,D.v (.bool false),I cycle,I 0,sl' 1 (fun x=>[I x]) ages,I 0,I 0,I 0,D.v (.slice none 0 0),I 0]][k]?).getD []) (j-m)) (fun j=>encM ((xs++[((⟨(i:Int),⟨2,0,(i:Int).tmod 12,0,0,0,false,cycle,0,ages,0,0,0,[]⟩,0⟩:Heard),false)]).getD j default)) (fun j hj=>by (try dsimp only); rw [getD_app xs [((⟨(i:Int),⟨2,0,(i:Int).tmod 12,0,0,0,false,cycle,0,ages,0,0,0,[]⟩,0⟩:Heard),false)] j default,show xs.length=m from (by (try simp only [List.length_set,List.length_replicate,List.length_append,List.length_cons,List.length_nil]) <;> omega)]; split <;> first|rfl|(rename_i hjn; rw [show j-m=0 by omega]; rfl)) (PL.a 1 [0,1,11,12,13,14] 2 (PL.nil ?_))))
   show PW _ _ _ _ _
   refine PW.b [0,1,11,12,13,14] 2 ?_
   refine BackR.u [(14,I (IntKind.i64.wrap ((i:Int)+1)),I ((i+1):Int))] [] (i+1,m+1,xs++[((⟨(i:Int),⟨2,0,(i:Int).tmod 12,0,0,0,false,cycle,0,ages,0,0,0,[]⟩,0⟩:Heard),false)]) ?_
   ·dsimp only
    exact ⟨by omega,by rw [mixV_one,← hinv.2.1]; rfl,by omega⟩
  ·try have hsm:=few_of hz1.1.1
   refine PW.e (PW.w 1 [0,1,11,12,64] 1 (PL.sl [0,1,11,12,64] 1 (PL.eq (s':={ tab:=[⟨0,[],I cycle⟩,⟨1,[],sl' 1 (fun x=>[I x]) ages⟩,⟨11,[],I (f:Int)⟩,⟨12,[],I (k:Int)⟩,⟨64,[],D.h 0 m⟩],mem:=[Obj.row 42 16 m (fun j=>encM (xs.getD j default))] }) kR (PL.frzR 0 (t:=42) (z:=16) (m:=m) (f:=(fun j=>encM (xs.getD j default))) (f':=(fun i=>encM (xs.getD i default))) (s':={ tab:=[⟨0,[],I cycle⟩,⟨1,[],sl' 1 (fun x=>[I x]) ages⟩,⟨11,[],I (f:Int)⟩,⟨12,[],I (k:Int)⟩,⟨64,[],sl' 16 encM xs⟩],mem:=[Obj.dead] }) rfl (fun j hj=>rfl) (Nat.zero_le _) (fz_eq (n:=m) (d:=D.s m 16 (fun i=>encM (xs.getD i default))) (fun d9=>{ tab:=[⟨0,[],I cycle⟩,⟨1,[],sl' 1 (fun x=>[I x]) ages⟩,⟨11,[],I (f:Int)⟩,⟨12,[],I (k:Int)⟩,⟨64,[],d9⟩],mem:=[Obj.dead] }) kR (sl_len (z:=16) (n:=m) (e:=encM) (xs:=xs) (by (try simp only [List.length_replicate,List.length_append,List.length_cons,List.length_nil,List.length_set,List.length_take,List.length_drop]) <;> omega))) (PL.gc (A:=[]) (fun _=>PC.arg (ds:=[sl' 16 encM xs]) 0 (sl' 16 Heard.d (xs.map Prod.fst)) rfl (fun w ok v hv=>mix_coarse xs (by rw [hinv.2.1]; exact mixV_body) hv) (vote_Backers_pc (xs.map Prod.fst) (by rw [List.length_map]; omega) (by rw [hinv.2.1]; exact mixV_fine hsm.2 oM))) (PL.n 1 [0,1,11,12,15] 1 (PW.seq ?_)))))))
   refine PW.w 8 [0,1,15,70,72,73] 1 (PL.gc (A:=[(70,false)]) (fun _=>vote_Enough_pc ((backL (xs.map Prod.fst)).length:Int) (f:Int)) (PL.n 2 [0,1,15,76] 1 (PW.cd ((decide (((backL (xs.map Prod.fst)).length:Int)<(k:Int)))||(!(enoughB ((backL (xs.map Prod.fst)).length:Int) (f:Int)))) ?_ ?_))) <;> intro hz2 <;> try simp only [boolS,Bool.false_or] at hz2
   ·try have hsm:=few_of hz2.1.1
    refine PW.t [10] 1 (rq (D.v (.bool false)) ?_)
    exfalso
    have hfw:=faults_fst (wrong:=wrong) (cycle:=cycle) (ages:=ages) (f:=f) (k:=k) oM oM
    have hxs:xs=mixV wrong cycle ages k:=by rw [hinv.2.1,show i=k by omega]
    rw [← hxs] at hfw
    have hen:=faults_enough (n:=(backL (xs.map Prod.fst)).length) (k:=k) hf3 oM oM
    rw [hen] at hz2
    simp at hz2
    omega
   ·try have hsm:=few_of hz2.1.1
    refine PW.k (PW.q [0,1,15,16] 1 (PW.block (PW.lp (α := Nat) (fun t=>{ tab:=[⟨0,[],I cycle⟩,⟨1,[],sl' 1 (fun x=>[I x]) ages⟩,⟨15,[],sl' 16 Heard.d (backL (xs.map Prod.fst))⟩,⟨16,[],I (t:Int)⟩],mem:=[Obj.dead] }) (fun t=>t≤(backL (xs.map Prod.fst)).length) (fun t=>(backL (xs.map Prod.fst)).length-t) [0,1,15,16] 1 (0) ?_ ?_)))
    ·exact Nat.zero_le _
    rintro t hinw
    have hfw:=faults_fst (wrong:=wrong) (cycle:=cycle) (ages:=ages) (f:=f) (k:=k) oM oM
    have hxs:xs=mixV wrong cycle ages k:=by rw [hinv.2.1,show i=k by omega]
    rw [← hxs] at hfw
    have hbl:=backL_len (xs.map Prod.fst)
    rw [List.length_map] at hbl
    show PW _ _ _ _ _
    refine PW.q [0,1,15,16,80] 1 (PW.cd (decide ((t:Int)<((backL (xs.map Prod.fst)).length:Int))) ?_ ?_) <;> intro hz3 <;> try simp only [boolS,Bool.false_or] at hz3
    ·try have hsm:=few_of hz3.1.1
     refine PW.k (PW.seq (PW.block (PW.sg (PL.rw 16 [0,1,15,16,91,97,98] 1 (p:=(0≤(t:Int)∧(t:Int)<((backL (xs.map Prod.fst)).length:Int))∧(((((((backL (xs.map Prod.fst)).getD t default).frame).cycle) != cycle)=false∧True→0≤(t:Int)∧(t:Int)<((backL (xs.map Prod.fst)).length:Int)))) nD (PL.gc (A:=[(91,false)]) (fun _=>drumlineref1_SameInts_pc ((((backL (xs.map Prod.fst)).getD t default).frame).ages) ages (by rw [(hfw.2 t oM).2]; omega) oM) (PL.n 2 [0,1,15,16,101] 1 (PW.cd ((((((backL (xs.map Prod.fst)).getD t default).frame).cycle) != cycle)||(!(decide ((((backL (xs.map Prod.fst)).getD t default).frame).ages=ages)))) ?_ ?_))))))) <;> intro hz4 <;> try simp only [boolS,Bool.false_or] at hz4
     ·try have hsm:=few_of hz4.1.1
      refine PW.t [10] 1 (rq (D.v (.bool false)) ?_)
      exfalso
      have h8:=hfw.2 t oM
      rw [h8.1,h8.2] at hz4
      simp at hz4
     ·try have hsm:=few_of hz4.1.1
      refine PW.k (PW.b [0,1,15,16] 1 ?_)
      refine BackR.u [(16,I (IntKind.i64.wrap ((t:Int)+1)),I ((t+1):Int))] [] (t+1) ?_
      ·omega
    ·try have hsm:=few_of hz3.1.1
     refine PW.e (PW.t [10] 1 (rq (D.v (.bool true)) ?_))
     rfl
end Go.Proofs.Ytkhdnlkdcikdmaa.Pl
