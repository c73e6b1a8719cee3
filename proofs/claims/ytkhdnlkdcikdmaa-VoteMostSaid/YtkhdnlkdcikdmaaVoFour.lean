/- Chapter 14: the law's own functions. -/
import Derived.Test.YtkhdnlkdcikdmaaVoThree
namespace Go.Proofs.Ytkhdnlkdcikdmaa.Pl
open Go.RowKit Go.Proofs.Ytkhdnlkdcikdmaa.Sm Go.Proofs.Ytkhdnlkdcikdmaa.Dp
open Go.Proofs.Ytkhdnlkdcikdmaa.Fr (bare frD frC)
set_option maxHeartbeats 4000000
set_option maxRecDepth 100000
set_option linter.unusedVariables false
set_option linter.unusedSimpArgs false
def longC (c:Content):Bool:=decide (c.ages.length>30)
def smallB (l:List Content):Bool := !decide (l.length>60) && !(l.any longC)
def longH (h:Heard):Bool:=decide (h.frame.ages.length>30)||decide (h.frame.body.length>100)
def fewB (l:List Heard):Bool := !decide (l.length>60) && !(l.any longH)
theorem any_at {α : Type} [Inhabited α] {p : α → Bool} {l:List α} {i:Nat} (hi:i<l.length) (h:p (l.getD i default)=true):l.any p=true:=List.any_eq_true.2 ⟨_,getD_mem hi,h⟩
theorem any_no {α : Type} [Inhabited α] {p : α → Bool} {l:List α} (h:∀ k,k<l.length→p (l.getD k default)=false):l.any p=false:=by
 rw [List.any_eq_false]
 intro x hx
 obtain ⟨i,hi,rfl⟩:=getD_of_mem hx
 exact Bool.eq_false_iff.1 (h i hi)
theorem small_of {l:List Content} (h:smallB l=true):l.length≤60∧∀ k,(l.getD k default).ages.length<1000000:=by
 unfold smallB at h
 rw [Bool.and_eq_true,Bool.not_eq_true',Bool.not_eq_true',decide_eq_false_iff_not,List.any_eq_false] at h
 refine ⟨by omega,fun k => ?_⟩
 rcases Nat.lt_or_ge k l.length with h2|h2
 ·have h3:=h.2 _ (getD_mem h2)
  unfold longC at h3
  rw [decide_eq_true_eq] at h3
  omega
 ·rw [List.getD_eq_getElem?_getD,List.getElem?_eq_none h2]
  decide
theorem few_of {l:List Heard} (h:fewB l=true):l.length≤60∧Fine l:=by
 unfold fewB at h
 rw [Bool.and_eq_true,Bool.not_eq_true',Bool.not_eq_true',decide_eq_false_iff_not,List.any_eq_false] at h
 refine ⟨by omega,fun x hx => ?_⟩
 have h3:=h.2 x hx
 unfold longH at h3
 rw [Bool.or_eq_true,decide_eq_true_eq,decide_eq_true_eq] at h3
 omega
theorem lit_small {l:List Content} (h:∀ c ∈ l,c.ages.length<1000000) (k:Nat):(l.getD k default).ages.length<1000000:=by
 rcases Nat.lt_or_ge k l.length with h2|h2
 ·exact h _ (getD_mem h2)
 ·rw [List.getD_eq_getElem?_getD,List.getElem?_eq_none h2]
  decide
theorem va1:winI [⟨1,[0]⟩,⟨2,[0]⟩,⟨2,[0]⟩,⟨1,[0]⟩]=(0,2):=by decide
theorem va2:enoughB 3 1=true:=by decide
theorem va3:enoughB 2 1=false:=by decide
theorem va4:sameC ⟨1,[0]⟩ ⟨1,[0]⟩=true:=by decide
theorem va5:sameC ⟨1,[0]⟩ ⟨2,[0]⟩=false:=by decide
theorem drumlinelaw14_small_pc (l:List Content) (hl:l.length≤maxLen):PC Try.prog [] 9 [sl' 2 Content.d l] (· = D.v (.bool (smallB l))):=by
 refine po 20 Try.func9 rfl (PW.a [0] 0 (PW.q [0,6] 0 (PW.cd (decide ((l.length:Int)>(60:Int))) ?_ ?_))) <;> intro hz0 <;> try simp only [boolS,sameC_iff,sameC_no] at hz0
 ·refine PW.t [2] 0 (rq (D.v (.bool false)) ?_)
  unfold smallB
  rw [decide_eq_true oM]
  rfl
 ·refine PW.k (PW.q [0,3] 0 (PW.block (PW.lp (α := Nat) (fun i=>{ tab:=[⟨0,[],sl' 2 Content.d l⟩,⟨3,[],I (i:Int)⟩],mem:=[] }) (fun i=>i≤l.length∧∀ k,k<i→longC (l.getD k default)=false) (fun i=>l.length-i) [0,3] 0 (0) ?_ ?_)))
  ·exact ⟨Nat.zero_le _,fun k hk=>absurd hk (Nat.not_lt_zero _)⟩
  rintro i hinv
  show PW _ _ _ _ _
  refine PW.q [0,3,10] 0 (PW.cd (decide ((i:Int)<(l.length:Int))) ?_ ?_) <;> intro hz1 <;> try simp only [boolS,sameC_iff,sameC_no] at hz1
  ·refine PW.k (PW.seq (PW.block (PW.sr [0,3,19] 0 (p:=(0≤(i:Int)∧(i:Int)<(l.length:Int))) oM (PW.cd (decide ((((l.getD i default).ages).length:Int)>(30:Int))) ?_ ?_)))) <;> intro hz2 <;> try simp only [boolS,sameC_iff,sameC_no] at hz2
   ·refine PW.t [2] 0 (rq (D.v (.bool false)) ?_)
    unfold smallB
    rw [any_at (p:=longC) (l:=l) (i:=i) oM (decide_eq_true oM)]
    simp
   ·refine PW.k (PW.b [0,3] 0 ?_)
    refine BackR.u [(3,I (IntKind.i64.wrap ((i:Int)+1)),I ((i+1):Int))] [] (i+1) ?_
    ·refine ⟨by omega,?_⟩
     intro k hk
     by_cases hki:k=i
     ·subst hki
      exact decide_eq_false oM
     ·exact hinv.2 k oM
  ·refine PW.e (PW.t [2] 0 (rq (D.v (.bool true)) ?_))
   unfold smallB
   rw [any_no (fun k hk=>hinv.2 k oM),decide_eq_false oM]
   rfl
theorem drumlinelaw14_few_pc (l:List Heard) (hl:l.length≤maxLen):PC Try.prog [] 14 [sl' 16 Heard.d l] (· = D.v (.bool (fewB l))):=by
 refine po 31 Try.func14 rfl (PW.a [0] 0 (PW.q [0,6] 0 (PW.cd (decide ((l.length:Int)>(60:Int))) ?_ ?_))) <;> intro hz0 <;> try simp only [boolS,sameC_iff,sameC_no] at hz0
 ·refine PW.t [2] 0 (rq (D.v (.bool false)) ?_)
  unfold fewB
  rw [decide_eq_true oM]
  rfl
 ·refine PW.k (PW.q [0,3] 0 (PW.block (PW.lp (α := Nat) (fun i=>{ tab:=[⟨0,[],sl' 16 Heard.d l⟩,⟨3,[],I (i:Int)⟩],mem:=[] }) (fun i=>i≤l.length∧∀ k,k<i→longH (l.getD k default)=false) (fun i=>l.length-i) [0,3] 0 (0) ?_ ?_)))
  ·exact ⟨Nat.zero_le _,fun k hk=>absurd hk (Nat.not_lt_zero _)⟩
  rintro i hinv
  show PW _ _ _ _ _
  refine PW.q [0,3,10] 0 (PW.cd (decide ((i:Int)<(l.length:Int))) ?_ ?_) <;> intro hz1 <;> try simp only [boolS,sameC_iff,sameC_no] at hz1
  ·refine PW.k (PW.seq (PW.block (PW.sr [0,3,30] 0 (p:=(0≤(i:Int)∧(i:Int)<(l.length:Int))∧(((decide (((((l.getD i default).frame).ages).length:Int)>(30:Int)))=false∧True→0≤(i:Int)∧(i:Int)<(l.length:Int)))) nD (PW.cd ((decide (((((l.getD i default).frame).ages).length:Int)>(30:Int)))||(decide (((((l.getD i default).frame).body).length:Int)>(100:Int)))) ?_ ?_)))) <;> intro hz2 <;> try simp only [boolS,sameC_iff,sameC_no] at hz2
   ·refine PW.t [2] 0 (rq (D.v (.bool false)) ?_)
    unfold fewB
    rw [any_at (p:=longH) (l:=l) (i:=i) oM (by unfold longH; simp only [Bool.or_eq_true,decide_eq_true_eq]; omega)]
    simp
   ·refine PW.k (PW.b [0,3] 0 ?_)
    refine BackR.u [(3,I (IntKind.i64.wrap ((i:Int)+1)),I ((i+1):Int))] [] (i+1) ?_
    ·refine ⟨by omega,?_⟩
     intro k hk
     by_cases hki:k=i
     ·subst hki
      unfold longH
      simp only [Bool.or_eq_false_iff,decide_eq_false_iff_not]
      omega
     ·exact hinv.2 k oM
  ·refine PW.e (PW.t [2] 0 (rq (D.v (.bool true)) ?_))
   unfold fewB
   rw [any_no (fun k hk=>hinv.2 k oM),decide_eq_false oM]
   rfl
theorem drumlinelaw14_alive_pc  : PC Try.prog [] 8 [] (· = D.v (.bool true)):=by
 refine po 42 Try.func8 rfl (PW.a [] 0 (PW.w 1 [5] 1 (PL.sl [5] 1 (PL.eq (s':={ tab:=[⟨5,[],D.h 0 1⟩],mem:=[Obj.row 3 1 1 (fun k=>([[I 0]][k]?).getD [])] }) kR (PL.frzR 0 (t:=3) (z:=1) (m:=1) (f:=(fun k=>([[I 0]][k]?).getD [])) (f':=(fun i=>[I (([0]).getD i default)])) (s':={ tab:=[⟨5,[],sl' 1 (fun x=>[I x]) ([0])⟩],mem:=[Obj.dead] }) rfl (fun j hj=>match j,hj with|0,_=>rfl|j+1,hj=>absurd hj oM) (Nat.zero_le _) kR (PL.build (cs:=[I 1,sl' 1 (fun x=>[I x]) ([0])]) rfl kR kR kR (PL.a 1 [6,7] 2 ?_)))))))
 refine PL.sl [6,7] 2 (PL.eq (s':={ tab:=[⟨6,[],D.r [I 1,sl' 1 (fun x=>[I x]) ([0])]⟩,⟨7,[],D.h 1 1⟩],mem:=[Obj.dead,Obj.row 3 1 1 (fun k=>([[I 0]][k]?).getD [])] }) kR (PL.frzR 1 (t:=3) (z:=1) (m:=1) (f:=(fun k=>([[I 0]][k]?).getD [])) (f':=(fun i=>[I (([0]).getD i default)])) (s':={ tab:=[⟨6,[],D.r [I 1,sl' 1 (fun x=>[I x]) ([0])]⟩,⟨7,[],sl' 1 (fun x=>[I x]) ([0])⟩],mem:=[Obj.dead,Obj.dead] }) rfl (fun j hj=>match j,hj with|0,_=>rfl|j+1,hj=>absurd hj oM) (Nat.zero_le _) kR (PL.build (cs:=[I 2,sl' 1 (fun x=>[I x]) ([0])]) rfl kR kR kR (PL.n 4 [1,2] 4 (PW.w 5 [1,2,14] 5 (PL.sl [1,2,14] 5 (PL.eq (s':={ tab:=[⟨1,[],D.p 2 0 0 0⟩,⟨2,[],D.p 3 0 0 0⟩,⟨14,[],D.h 4 4⟩],mem:=[Obj.dead,Obj.dead,Obj.var 37 [I 1,sl' 1 (fun x=>[I x]) ([0])],Obj.var 37 [I 2,sl' 1 (fun x=>[I x]) ([0])],Obj.row 37 2 4 (fun k=>([[I 1,sl' 1 (fun x=>[I x]) ([0])],[I 2,sl' 1 (fun x=>[I x]) ([0])],[I 2,sl' 1 (fun x=>[I x]) ([0])],[I 1,sl' 1 (fun x=>[I x]) ([0])]][k]?).getD [])] }) kR ?_)))))))
 refine PL.frzR 4 (t:=37) (z:=2) (m:=4) (f:=(fun k=>([[I 1,sl' 1 (fun x=>[I x]) ([0])],[I 2,sl' 1 (fun x=>[I x]) ([0])],[I 2,sl' 1 (fun x=>[I x]) ([0])],[I 1,sl' 1 (fun x=>[I x]) ([0])]][k]?).getD [])) (f':=(fun i=>Content.d (([(⟨1,[0]⟩:Content),(⟨2,[0]⟩:Content),(⟨2,[0]⟩:Content),(⟨1,[0]⟩:Content)]).getD i default))) (s':={ tab:=[⟨1,[],D.p 2 0 0 0⟩,⟨2,[],D.p 3 0 0 0⟩,⟨14,[],sl' 2 Content.d ([(⟨1,[0]⟩:Content),(⟨2,[0]⟩:Content),(⟨2,[0]⟩:Content),(⟨1,[0]⟩:Content)])⟩],mem:=[Obj.dead,Obj.dead,Obj.var 37 [I 1,sl' 1 (fun x=>[I x]) ([0])],Obj.var 37 [I 2,sl' 1 (fun x=>[I x]) ([0])],Obj.dead] }) rfl (fun j hj=>match j,hj with|0,_=>rfl|1,_=>rfl|2,_=>rfl|3,_=>rfl|j+4,hj=>absurd hj oM) (Nat.zero_le _) kR (PL.gc (A:=[]) (fun _=>vote_Win_pc ([(⟨1,[0]⟩:Content),(⟨2,[0]⟩:Content),(⟨2,[0]⟩:Content),(⟨1,[0]⟩:Content)]) (by simp) (lit_small (by simp))) (PL.n 5 [1,2,3,4] 5 (PW.w 7 [1,2,24] 5 (PL.gc (A:=[(24,true)]) (fun _=>vote_Enough_pc (3:Int) (1:Int)) (PL.a 2 [1,2,27] 5 (PL.gc (A:=[(27,true)]) (fun _=>vote_Enough_pc (2:Int) (1:Int)) (PL.a 5 [1,2,31,32,33] 5 ?_)))))))
 refine PL.gc (A:=[(31,true)]) (fun _=>vote_Same_pc (⟨1,[0]⟩:Content) (⟨1,[0]⟩:Content) (by simp) (by simp)) (PL.a 4 [36,37,38] 5 (PL.gc (A:=[(36,true)]) (fun _=>vote_Same_pc (⟨1,[0]⟩:Content) (⟨2,[0]⟩:Content) (by simp) (by simp)) (PL.n 3 [0] 5 (PW.ret (rq (D.v (.bool ((((((((winI ([(⟨1,[0]⟩:Content),(⟨2,[0]⟩:Content),(⟨2,[0]⟩:Content),(⟨1,[0]⟩:Content)])).1) == (0:Int))&&(((winI ([(⟨1,[0]⟩:Content),(⟨2,[0]⟩:Content),(⟨2,[0]⟩:Content),(⟨1,[0]⟩:Content)])).2) == (2:Int)))&&(enoughB 3 1))&&(!(enoughB 2 1)))&&(sameC (⟨1,[0]⟩:Content) (⟨1,[0]⟩:Content)))&&(!(sameC (⟨1,[0]⟩:Content) (⟨2,[0]⟩:Content)))))) ?_)))))
 rw [va1,va2,va3,va4,va5]
 rfl
end Go.Proofs.Ytkhdnlkdcikdmaa.Pl
