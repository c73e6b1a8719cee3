/- Chapter 14's law VoteSame. -/
import Derived.Test.YtkhdnlkdcikdmaaVoFive
import Derived.Test.YtkhdnlkdcikdmaaDpUng
namespace Go.Proofs.Ytkhdnlkdcikdmaa.Pl
open Go.RowKit Go.Proofs.Ytkhdnlkdcikdmaa.Sm Go.Proofs.Ytkhdnlkdcikdmaa.Dp
open Go.Proofs.Ytkhdnlkdcikdmaa.Fr (bare frD frC)
set_option maxHeartbeats 4000000
set_option maxRecDepth 100000
set_option linter.unusedVariables false
set_option linter.unusedSimpArgs false
theorem small3 {a b c:Content} (h:smallB [a,b,c]=true):a.ages.length<1000000∧b.ages.length<1000000∧c.ages.length<1000000:=⟨(small_of h).2 0,(small_of h).2 1,(small_of h).2 2⟩
theorem same_three (a b c:Content):((((sameC a b == sameC a b)&&(sameC b a == sameC a b))&&sameC a a)&&((!sameC a b || !sameC b c)||sameC a c))=true:=by
 unfold sameC
 by_cases h1:a=b
 ·subst h1
  by_cases h2:a=c <;> simp [h2]
 ·have h2:¬ b=a:=fun h=>h1 h.symm
  rw [decide_eq_false h1,decide_eq_false h2]
  simp
theorem drumlinelaw14_VoteSame_pc (a b c:Content):PC Try.prog [] 7 [D.r (Content.d a),D.r (Content.d b),D.r (Content.d c)] (· = D.v (.bool true)):=by
 refine po 58 Try.func7 rfl (PW.a [3,4,5] 3 (PW.seq (PW.sg (PL.gc (A:=[]) (fun _=>drumlinelaw14_alive_pc) (PL.a 5 [3,4,5,12,13,14,15] 3 (PL.sl [3,4,5,12,13,14,15] 3 (PL.ung [(12,false)] kR kR ?_)))))))
 refine PL.a 1 [3,4,5,12,16] 4 (PL.sl [3,4,5,12,16] 4 (PL.eq (s':={ tab:=[⟨3,[],D.p 0 0 0 0⟩,⟨4,[],D.p 1 0 0 0⟩,⟨5,[],D.p 2 0 0 0⟩,⟨12,[],D.v (.bool false)⟩,⟨16,[],D.h 3 3⟩],mem:=[Obj.var 37 [I a.cycle,sl' 1 (fun x=>[I x]) a.ages],Obj.var 37 [I b.cycle,sl' 1 (fun x=>[I x]) b.ages],Obj.var 37 [I c.cycle,sl' 1 (fun x=>[I x]) c.ages],Obj.row 37 2 3 (fun k=>([[I a.cycle,sl' 1 (fun x=>[I x]) a.ages],[I b.cycle,sl' 1 (fun x=>[I x]) b.ages],[I c.cycle,sl' 1 (fun x=>[I x]) c.ages]][k]?).getD [])] }) kR (PL.frzR 3 (t:=37) (z:=2) (m:=3) (f:=(fun k=>([[I a.cycle,sl' 1 (fun x=>[I x]) a.ages],[I b.cycle,sl' 1 (fun x=>[I x]) b.ages],[I c.cycle,sl' 1 (fun x=>[I x]) c.ages]][k]?).getD [])) (f':=(fun i=>Content.d (([a,b,c]).getD i default))) (s':={ tab:=[⟨3,[],D.p 0 0 0 0⟩,⟨4,[],D.p 1 0 0 0⟩,⟨5,[],D.p 2 0 0 0⟩,⟨12,[],D.v (.bool false)⟩,⟨16,[],sl' 2 Content.d ([a,b,c])⟩],mem:=[Obj.var 37 [I a.cycle,sl' 1 (fun x=>[I x]) a.ages],Obj.var 37 [I b.cycle,sl' 1 (fun x=>[I x]) b.ages],Obj.var 37 [I c.cycle,sl' 1 (fun x=>[I x]) c.ages],Obj.dead] }) rfl (fun j hj=>match j,hj with|0,_=>rfl|1,_=>rfl|2,_=>rfl|j+3,hj=>absurd hj oM) (Nat.zero_le _) kR (PL.gc (A:=[(12,false)]) (fun _=>drumlinelaw14_small_pc ([a,b,c]) (by first|assumption|simp [maxLen])) (PL.n 2 [3,4,5,19] 4 (PW.cd (false||(!(smallB ([a,b,c])))) ?_ ?_)))))) <;> intro hz0 <;> try simp only [boolS,Bool.false_or] at hz0
 ·try have hsm:=small3 hz0
  refine PW.sg (PL.gc (A:=[]) (fun _=>drumlinelaw14_alive_pc) (PL.n 1 [6] 4 (PW.ret (rq (D.v (.bool true)) ?_))))
  rfl
 ·try have hsm:=small3 hz0
  refine PW.k (PW.seq (PW.open [] kR ?_))
  refine PO.a [0,1,3,4,6,7] 12 [3,4,21,22,24,25,27,28] 6 (PO.one (n:=5) 2 kR ?_)
  refine PO1.gc _ (A:=[]) (fun _=>vote_Same_pc a b hsm.1 hsm.2.1) ?_ rfl
  refine PO.one (n:=4) 5 kR ?_
  refine PO1.gc _ (A:=[]) (fun _=>vote_Same_pc b c hsm.2.1 hsm.2.2) ?_ rfl
  refine PO.one (n:=3) 8 kR ?_
  refine PO1.gc _ (A:=[]) (fun _=>vote_Same_pc a c hsm.1 hsm.2.2) ?_ rfl
  refine PO.a [9,10,11] 3 [3,4,7,8,9] 0 (PO.done kR ?_)
  show PW _ _ _ _ _
  refine PW.w 3 [3,4,7,8,9,30,31,32] 4 (PL.gc (A:=[]) (fun _=>drumlineref10_SameContent_pc a b hsm.1 hsm.2.1) (PL.a 4 [3,7,8,9,35,36,37] 4 (PL.gc (A:=[(35,true)]) (fun _=>vote_Same_pc b a hsm.2.1 hsm.1) (PL.a 6 [7,8,9,42,43,44] 4 (PL.gc (A:=[(42,true)]) (fun _=>vote_Same_pc a a hsm.1 hsm.1) (PL.n 13 [6] 4 (PW.ret ?_)))))))
  refine rq (D.v (.bool (((((sameC a b) == (sameC a b))&&((sameC b a) == (sameC a b)))&&(sameC a a))&&(((!(sameC a b))||(!(sameC b c)))||(sameC a c))))) ?_
  rw [same_three]
end Go.Proofs.Ytkhdnlkdcikdmaa.Pl
