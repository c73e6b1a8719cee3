/- Chapter 14: package vote's ordered, run, Win. -/
import Derived.Shelf.SlSortCmp.NoneTotal
import Derived.Test.YtkhdnlkdcikdmaaVoSort
namespace Go.Proofs.Ytkhdnlkdcikdmaa.Pl
open Go.RowKit Go.Proofs.Ytkhdnlkdcikdmaa.Sm Go.Proofs.Ytkhdnlkdcikdmaa.Dp
open Go.Proofs.Ytkhdnlkdcikdmaa.Fr (bare frD frC)
set_option maxHeartbeats 4000000
set_option maxRecDepth 100000
set_option linter.unusedVariables false
set_option linter.unusedSimpArgs false
theorem idx_of {xs:List Int} {n:Nat} (h:xs.length=n) (h2:∀ k,k<n→xs.getD k default=(k:Int)):xs=idxL n:=by
 refine List.ext_getElem? fun k => ?_
 rcases Nat.lt_or_ge k n with hk|hk
 ·have h3:=h2 k hk
  have h4:=idx_at hk
  rw [List.getD_eq_getElem?_getD,List.getElem?_eq_getElem oM] at h3
  rw [List.getD_eq_getElem?_getD,List.getElem?_eq_getElem (by rw [idx_len]; exact hk)] at h4
  rw [List.getElem?_eq_getElem oM,List.getElem?_eq_getElem (by rw [idx_len]; exact hk)]
  simp only [Option.getD_some] at h3 h4
  rw [h3,h4]
 ·rw [List.getElem?_eq_none oM,List.getElem?_eq_none (by rw [idx_len]; exact hk)]
theorem sortNil_pm (f:FuncId) (cs:List D) (xs:List Int):PM Try.prog [] 29 [.h 0 0,.c f cs] (Dp.Obj.row 3 1 0 (fun j=>[I (xs.getD j default)])) (fun d ob=>d=D.t []∧ob=Dp.Obj.row 3 1 0 (fun j=>[I (xs.getD j default)])):=by
 intro κ w x vs hκ hx1 _ hO hlen hd
 match vs,hlen with
 | [v0,v1],_ =>
  have hr:=hd 0 _ _ rfl rfl
  have hv:∃ p c,v0 = .slice p 0 c:=by
   cases hr with
   | one hr=>cases hr with
    | c hr=>cases hr
    | h hr hn=>exact ⟨_,_,rfl⟩
    | h0 hr=>exact ⟨_,_,rfl⟩
  obtain ⟨p,c,rfl⟩:=hv
  refine (Go.Proofs.AnyF.slices_SortFunc_none (P:=Try.prog) (ρ := sortFL_ren) { sortFL with } p c v1 w).mono ?_
  rintro e w' ⟨rfl,rfl⟩
  refine ⟨.tuple #[],.t [],_,rfl,⟨rfl,rfl⟩,.t (vs:=[]) rfl (fun j d v h=>by simp at h),?_,rfl,rfl,rfl,Nat.le_refl _,fun b hb' hne=>rfl⟩
  rcases hO with h|⟨g,c2,cur,e,hh,hnc,hcm,hsz,hel⟩
  ·exact .inl h
  ·exact .inr ⟨g,c2,cur,e,hh,hnc,hcm,hsz,fun i hi=>absurd hi (Nat.not_lt_zero i)⟩
theorem sortAll_pm (l:List Content) (hl:l.length<1000000) (hA:∀ k,(l.getD k default).ages.length<1000000) (xs:List Int) (hx:xs=idxL l.length):PM Try.prog [] 29 [.h 0 l.length,.c 30 [.q [sl' 2 Content.d l] 0]] (Dp.Obj.row 3 1 l.length (fun j=>[I (xs.getD j default)])) (fun d ob=>d=D.t []∧ob=Dp.Obj.row 3 1 l.length (fun j=>[I ((ordL l).getD j default)])):=by
 rcases Nat.eq_zero_or_pos l.length with h0|h0
 ·have e1:xs=ordL l:=by
   have h1:=ord_len l
   rw [h0,List.length_eq_zero_iff] at h1
   rw [hx,h1,h0]
   rfl
  rw [h0,e1]
  exact sortNil_pm _ _ _
 ·rw [hx]
  exact sortF_pm l hl hA l.length rfl h0
theorem sl_drop {zs:List Int} {r:Nat}:sl' 1 (fun x=>[I x]) (zs.drop r)=D.s (zs.length-r) 1 (fun k=>(fun i=>[I (zs.getD i default)]) (r+k)):=by
 unfold sl'
 rw [List.length_drop]
 congr 1
 funext k
 dsimp only
 rw [drop_getD]
def runZ (l:List Content) (zs:List Int):Nat:=(zs.takeWhile fun i=>decide (atC l i=atC l (zs.getD 0 default))).length
theorem runZ_drop (l:List Content) (os:List Int) (p:Nat):runZ l (os.drop p)=runN l os p:=by
 unfold runZ runN
 rw [drop_getD]
 rfl
theorem runZ_is {l:List Content} {zs:List Int} {n:Nat} (hn:n≤zs.length) (h1:∀ k,k<n→atC l (zs.getD k default)=atC l (zs.getD 0 default)) (h2:n=zs.length∨¬ atC l (zs.getD n default)=atC l (zs.getD 0 default)):runZ l zs=n:=by
 have h:=run_is (l:=l) (os:=zs) (p:=0) (n:=n) oM (fun k hk=>by rw [Nat.zero_add]; exact h1 k hk) (by rw [Nat.zero_add]; exact h2)
 rw [← runZ_drop] at h
 exact h
theorem runZ_le (l:List Content) (zs:List Int):runZ l zs≤zs.length∧(0<zs.length→1≤runZ l zs):=by
 have h:=runZ_drop l zs 0
 rw [List.drop_zero] at h
 rw [h]
 rcases Nat.eq_zero_or_pos zs.length with h0|h0
 ·refine ⟨?_,fun h2=>by omega⟩
  rw [List.length_eq_zero_iff.1 h0]
  exact Nat.le_refl _
 ·have h2:=run_spec (l:=l) h0
  omega
theorem ord_in' {l:List Content} (h:0<l.length) (p k:Nat):0≤((ordL l).drop p).getD k default∧((ordL l).drop p).getD k default<(l.length:Int):=by
 rw [drop_getD]
 rcases Nat.lt_or_ge (p+k) l.length with h2|h2
 ·exact ord_in h2
 ·rw [List.getD_eq_getElem?_getD,List.getElem?_eq_none (by rw [ord_len]; exact h2)]
  show 0≤(0:Int)∧(0:Int)<_
  omega
theorem vote_ordered_pc (l:List Content) (hl:l.length<1000000) (hA:∀ k,(l.getD k default).ages.length<1000000):PC Try.prog [] 23 [sl' 2 Content.d l] (· = sl' 1 (fun x=>[I x]) (ordL l)):=by
 refine po 22 Try.func23 rfl (PW.a [1] 1 (PW.sg (PL.rw 3 [1,7] 2 (p:=((l.length:Int)≤(l.length:Int)∧0≤(l.length:Int)∧((8:Nat):Int)*(l.length:Int)≤281474976710656∧(l.length:Int)≤9223372036854775807)) oM (PL.rm 1 (t:=3) (z:=1) (n:=l.length) (fun _=>[I 0]) (fun j=>(fun x=>[I x]) ((List.replicate l.length (0:Int)).getD j default)) (fun j hj=>by (try dsimp only); rw [getD_rep _ _ _ _ hj]) (PL.n 1 [1,3] 2 (PW.q [1,3,9,10] 2 (PW.block ?_)))))))
 refine PW.lp (α := Nat×List Int) (fun (p,xs)=>{ tab:=[⟨1,[],D.p 0 0 0 0⟩,⟨3,[],D.h 1 l.length⟩,⟨9,[],I (l.length:Int)⟩,⟨10,[],I (p:Int)⟩],mem:=[Obj.var 22 [sl' 2 Content.d l],Obj.row 3 1 l.length (fun j=>(fun x=>[I x]) (xs.getD j default))] }) (fun (p,xs)=>p≤l.length∧xs.length=l.length∧∀ k,k<p→xs.getD k default=(k:Int)) (fun (p,xs)=>l.length-p) [1,3,9,10] 2 (0,List.replicate l.length 0) ?_ ?_
 ·dsimp only
  exact ⟨Nat.zero_le _,List.length_replicate ..,fun k hk=>absurd hk (Nat.not_lt_zero k)⟩
 rintro ⟨p,xs⟩ hinv
 dsimp only at hinv
 show PW _ _ _ _ _
 refine PW.a [1,3,9,10,11] 2 (PW.seq (PW.cd (decide ((p:Int)<(l.length:Int))) ?_ ?_)) <;> intro hz0 <;> try simp only [boolS,sameC_iff,sameC_no] at hz0
 ·refine PW.k (PW.seq (PW.block (PW.a [1,3,4,9,10] 2 (PW.region (PL.rw 5 [1,3,9,10] 2 (p:=(0≤(p:Int)∧(p:Int)<(l.length:Int))∧(p<l.length)) oM (PL.st 1 (fun x=>[I x]) xs p (p:Int) (PL.nil ?_)))))))
  show PW _ _ _ _ _
  refine PW.b [1,3,9,10] 2 ?_
  refine BackR.u [(10,I (IntKind.i64.wrap ((p:Int)+1)),I ((p+1):Int))] [] (p+1,xs.set p (p:Int)) ?_
  ·dsimp only
   exact ⟨by omega,by rw [List.length_set]; exact hinv.2.1,fun k hk=>by
    rw [getD_set (l:=xs) (i:=p) (v:=(p:Int)) (hi:=by omega)]
    split
    ·omega
    ·exact hinv.2.2 k oM⟩
 ·refine PW.e (PW.w 1 [1,3,18] 2 (PL.sl [1,3,18] 2 (PL.fz 0 (t:=22) [sl' 2 Content.d l] (PL.mk (f:=30) (cap := #[.tmp 1]) [D.q [sl' 2 Content.d l] 0] (PL.cm (f:=29) (ds:=[D.h 0 l.length,D.c 30 [D.q [sl' 2 Content.d l] 0]]) (ob:=Obj.row 3 1 l.length (fun j=>(fun x=>[I x]) (xs.getD j default))) 1 (sortAll_pm l hl hA xs (idx_of hinv.2.1 fun k hk=>hinv.2.2 k oM)) ?_)))))
  rintro _ _ ⟨rfl,rfl⟩
  refine PL.nl (PW.t [2] 2 (retQ_ret (d:=D.s l.length 1 (fun j=>(fun x=>[I x]) ((ordL l).getD j default))) (ps:=[l.length≤l.length]) kR (show (l.length≤l.length) from by exact nD) ?_))
  unfold sl'
  rw [ord_len]
theorem vote_run_pc (l:List Content) (hl:l.length<1000000) (hA:∀ k,(l.getD k default).ages.length<1000000) (zs:List Int) (hzl:zs.length<1000000) (hz:∀ k,0≤zs.getD k default∧zs.getD k default<(l.length:Int)) (hpos:0<zs.length):PC Try.prog [] 24 [sl' 2 Content.d l,sl' 1 (fun x=>[I x]) zs] (· = I (runZ l zs:Nat)):=by
 refine po 29 Try.func24 rfl (PW.a [0,1] 0 (PW.a [0,1,5] 0 (PW.seq (PW.block (PW.lp (α := Nat) (fun n=>{ tab:=[⟨0,[],sl' 2 Content.d l⟩,⟨1,[],sl' 1 (fun x=>[I x]) zs⟩,⟨5,[],I (n:Int)⟩],mem:=[] }) (fun n=>1≤n∧n≤zs.length∧∀ k,k<n→atC l (zs.getD k default)=atC l (zs.getD 0 default)) (fun n=>zs.length-n) [0,1,5] 0 (1) ?_ ?_)))))
 ·exact ⟨Nat.le_refl _,by omega,fun k hk=>by rw [show k=0 by omega]⟩
 rintro n hinv
 have hk0:=hz 0
 have hkn:=hz n
 show PW _ _ _ _ _
 refine PW.seq (PW.seq (PW.open [] kR (PO.tk [0,1,2,3,4,5,6,7,8,9,10,11,12,13,14,15,16,17] 20 [0,1,5,10,16,23] 2 (p:=(((decide ((n:Int)<(zs.length:Int)))=true∧True→0≤(0:Int)∧(0:Int)<(zs.length:Int)))∧(((decide ((n:Int)<(zs.length:Int)))=true∧True→0≤(zs.getD 0 default)∧(zs.getD 0 default)<(l.length:Int)))∧(((decide ((n:Int)<(zs.length:Int)))=true∧True→0≤(n:Int)∧(n:Int)<(zs.length:Int)))∧(((decide ((n:Int)<(zs.length:Int)))=true∧True→0≤(zs.getD n default)∧(zs.getD n default)<(l.length:Int)))) nD (fun _ _ h=>h) (PO.one (n:=1) 18 kR ?_))))
 refine PO1.gc _ (ds0:=[D.r [I ((l.getD ((zs.getD 0 default).toNat) default).cycle),sl' 1 (fun x=>[I x]) ((l.getD ((zs.getD 0 default).toNat) default).ages)],D.r [I ((l.getD ((zs.getD n default).toNat) default).cycle),sl' 1 (fun x=>[I x]) ((l.getD ((zs.getD n default).toNat) default).ages)]]) (A:=[(10,true)]) (fun _=>vote_Same_pc (l.getD ((zs.getD 0 default).toNat) default) (l.getD ((zs.getD n default).toNat) default) (hA _) (hA _)) ?_ rfl
 refine PO.a [19] 1 [0,1,5,25] 0 (PO.done kR ?_)
 show PW _ _ _ _ _
 refine PW.cd ((decide ((n:Int)<(zs.length:Int)))&&(sameC (l.getD ((zs.getD 0 default).toNat) default) (l.getD ((zs.getD n default).toNat) default))) ?_ ?_ <;> intro hz0 <;> try simp only [boolS,sameC_iff,sameC_no] at hz0
 ·refine PW.k (PW.block (PW.b [0,1,5] 0 ?_))
  refine BackR.u [(5,I (IntKind.i64.wrap ((n:Int)+1)),I ((n+1):Int))] [] (n+1) ?_
  ·exact ⟨by omega,by omega,fun k hk=>by
     rcases Nat.lt_succ_iff_lt_or_eq.1 hk with h|rfl
     · exact hinv.2.2 k h
     · exact hz0.2.symm⟩
 ·refine PW.e (PW.t [4] 0 (rq (I (n:Int)) ?_))
  rw [runZ_is (n:=n) oM hinv.2.2 (by
    have h9:∀ x:Int,l.getD x.toNat default=atC l x:=fun x=>rfl
    rw [h9,h9] at hz0
    rcases hz0 with h|h
    · exact .inl oM
    · exact .inr fun e=>h e.symm)]
theorem ord_in'' {l:List Content} {p:Nat} {zs:List Int} {a m:Int} (h:(zs=(ordL l).drop p∧zs.length=l.length-p)∧WinP l p a m) (h0:0<zs.length) (k:Nat):0≤zs.getD k default∧zs.getD k default<(l.length:Int):=by
 rw [h.1.1]
 exact ord_in' oM p k
theorem vote_Win_pc (l:List Content) (hl:l.length<1000000) (hA:∀ k,(l.getD k default).ages.length<1000000):PC Try.prog [] 10 [sl' 2 Content.d l] (· = D.t [I (winI l).1,I (winI l).2]):=by
 refine po 40 Try.func10 rfl (PW.a [0] 0 (PW.w 1 [0,9] 0 (PL.gc (A:=[]) (fun _=>vote_ordered_pc l hl hA) (PL.n 1 [0,4] 0 (PW.a [0,4,5,6] 0 (PW.seq (PW.block ?_)))))))
 refine PW.lp (α := Nat×List Int×Int×Int) (fun (p,zs,a,m)=>{ tab:=[⟨0,[],sl' 2 Content.d l⟩,⟨4,[],sl' 1 (fun x=>[I x]) zs⟩,⟨5,[],I a⟩,⟨6,[],I m⟩],mem:=[] }) (fun (p,zs,a,m)=>(zs=(ordL l).drop p∧zs.length=l.length-p)∧WinP l p a m) (fun (p,zs,a,m)=>l.length-p) [0,4,5,6] 0 (0,(ordL l),(-1),0) ?_ ?_
 ·dsimp only
  exact ⟨⟨rfl,by rw [ord_len]; rfl⟩,winP_zero l⟩
 rintro ⟨p,zs,a,m⟩ hinv
 dsimp only at hinv
 have hru:=runZ_le l zs
 show PW _ _ _ _ _
 refine PW.q [0,4,5,6,13] 0 (PW.cd (decide ((zs.length:Int)>(0:Int))) ?_ ?_) <;> intro hz0 <;> try simp only [boolS,sameC_iff,sameC_no] at hz0
 ·refine PW.k (PW.block (PW.seq (PW.open [] kR (PO.tk [0,1,2,3,4] 8 [0,4,5,6,16,17,18] 3 (p:=(0≤(0:Int)∧(0:Int)<(zs.length:Int))) oM (fun _ _ h=>h) (PO.one (n:=2) 5 kR ?_)))))
  refine PO1.gc _ (A:=[]) (fun _=>vote_run_pc l hl hA zs (by have:=hinv.1.2; omega) (ord_in'' hinv oM) oM) ?_ rfl
  refine PO.a [6,7] 2 [0,4,5,6,7,8] 0 (PO.done kR ?_)
  show PW _ _ _ _ _
  refine PW.q [0,4,5,6,7,8,32] 0 (PW.cd ((decide ((runZ l zs:Int)>m))||(((runZ l zs:Int) == m)&&(decide ((zs.getD 0 default)<a)))) ?_ ?_) <;> intro hz1 <;> try simp only [boolS,sameC_iff,sameC_no] at hz1
  ·refine PW.b [0,4,5,6,8] 0 ?_
   show PW _ _ _ _ _
   refine PW.rr [0,4,5,6] 0 (p:=(0≤(runZ l zs:Int)∧(runZ l zs:Int)≤(zs.length:Int))) oM ?_
   refine BackR.of (s1:={ tab:=[⟨0,[],sl' 2 Content.d l⟩,⟨4,[],D.s (zs.length-((runZ l zs:Int).toNat)) 1 (fun k=>(fun i=>[I (zs.getD i default)]) (((runZ l zs:Int).toNat)+k))⟩,⟨5,[],I (zs.getD 0 default)⟩,⟨6,[],I (runZ l zs:Int)⟩],mem:=[] }) (p+runZ l zs,zs.drop (runZ l zs),(zs.getD 0 default),(runZ l zs:Int)) kR kR ?_ ?_ ?_
   ·dsimp only
    rw [sl_drop]
    exact Rem.refl _
   ·dsimp only
    have hrz:runZ l zs=runN l (ordL l) p:=by rw [hinv.1.1,runZ_drop]
    have hfst:zs.getD 0 default=(ordL l).getD p default:=by rw [hinv.1.1,drop_getD]; rfl
    have hst:=winP_step hinv.2 (show p<l.length by omega)
    rw [← hrz,← hfst] at hst
    refine ⟨⟨by rw [hinv.1.1,List.drop_drop],by rw [List.length_drop]; omega⟩,?_⟩
    first|exact hst.1 oM|exact hst.2 oM
   ·dsimp only
    exact nD
  ·refine PW.k (PW.rr [0,4,5,6] 0 (p:=(0≤(runZ l zs:Int)∧(runZ l zs:Int)≤(zs.length:Int))) oM ?_)
   refine BackR.of (s1:={ tab:=[⟨0,[],sl' 2 Content.d l⟩,⟨4,[],D.s (zs.length-((runZ l zs:Int).toNat)) 1 (fun k=>(fun i=>[I (zs.getD i default)]) (((runZ l zs:Int).toNat)+k))⟩,⟨5,[],I a⟩,⟨6,[],I m⟩],mem:=[] }) (p+runZ l zs,zs.drop (runZ l zs),a,m) kR kR ?_ ?_ ?_
   ·dsimp only
    rw [sl_drop]
    exact Rem.refl _
   ·dsimp only
    have hrz:runZ l zs=runN l (ordL l) p:=by rw [hinv.1.1,runZ_drop]
    have hfst:zs.getD 0 default=(ordL l).getD p default:=by rw [hinv.1.1,drop_getD]; rfl
    have hst:=winP_step hinv.2 (show p<l.length by omega)
    rw [← hrz,← hfst] at hst
    refine ⟨⟨by rw [hinv.1.1,List.drop_drop],by rw [List.length_drop]; omega⟩,?_⟩
    first|exact hst.1 oM|exact hst.2 oM
   ·dsimp only
    exact nD
 ·refine PW.e (PW.t [2,3] 0 (rq (D.t [I a,I m]) ?_))
  rw [winP_end hinv.2 oM]
end Go.Proofs.Ytkhdnlkdcikdmaa.Pl
